/-
  Small of the statements' own helpers: packets in parts that are valid. (asm_small.py writes this text.)
-/
import Derived.Test.YtkhcfmnebflgkaaDoorDiceSmall0
namespace Go.Proofs.YtkhcfmnebflgkaaDoor
open Go Go.RowKit

set_option maxRecDepth 100000 in
set_option maxHeartbeats 64000000 in
theorem small_in (g : Nat) (w : World) (hd : DiceIn w g) :
    Calls Tryd.prog 18 #[.pointer (some ⟨g, 0, none⟩)] w fun e w' => ∃ s : Sm, e = .returned (.agg #[.int .i64 s.ctx, .int .i64 s.fmt, .int .i64 s.num, .int .i64 s.time, .int .i64 s.mark, .int .i64 s.id, .int .i64 s.udp, .int .i64 s.h.kind, .int .i64 s.h.tos, .int .i64 s.h.id, .int .i64 s.h.fixed, .int .i64 s.h.ttl, .int .i64 s.h.frm, .int .i64 s.h.to, .int .i64 s.h.fromPort, .int .i64 s.h.toPort, .int .i64 s.h.check, .int .i64 s.h.marker, .int .i64 s.h.type, .int .i64 s.h.seq, .int .i64 s.h.time, .int .i64 s.h.source, .int .i64 s.ds, .int .i64 s.df, .int .i64 s.chk, .slice s.pa s.pn s.pc]) ∧ s.h.Fits ∧ smB s = true ∧ s.In w' ∧ DiceIn w' g ∧ w.grownBy w' (some g) := by
  have hlt := hd.lt
  have Q0 := Lib.hid (show SW w (w.alloc (.cells #[.int .i64 0, .int .i64 0, .int .i64 0, .int .i64 0, .int .i64 0, .int .i64 0, .int .i64 0, .int .i64 0, .int .i64 0, .int .i64 0, .int .i64 0, .int .i64 0, .int .i64 0, .int .i64 0, .int .i64 0, .int .i64 0, .int .i64 0, .int .i64 0, .int .i64 0, .int .i64 0, .int .i64 0, .int .i64 0, .int .i64 0, .int .i64 0, .int .i64 0, .slice none 0 0] 28)) g from ⟨hd.alloc _, World.grownBy_alloc w _ (some g), heap_alloc_new w _⟩)
  clear hd
  go_enter Tryd.func18, Tryd.ntmps18
  go_upto_region 1 with fail
  generalize hW1 : w.alloc (.cells #[.int .i64 0, .int .i64 0, .int .i64 0, .int .i64 0, .int .i64 0, .int .i64 0, .int .i64 0, .int .i64 0, .int .i64 0, .int .i64 0, .int .i64 0, .int .i64 0, .int .i64 0, .int .i64 0, .int .i64 0, .int .i64 0, .int .i64 0, .int .i64 0, .int .i64 0, .int .i64 0, .int .i64 0, .int .i64 0, .int .i64 0, .int .i64 0, .int .i64 0, .slice none 0 0] 28) = W0 at Q0 ⊢
  clear hW1
  go_cut [3] (fun s3 wx => ∃ B wc s, s3 = .pointer (some ⟨B, 0, none⟩) ∧ wc = wx ∧ SQ w wc g B s ∧ Sm0 s)
  case rest =>
    obtain ⟨B, W, s, rfl, rfl, q, z⟩ := hcut
    have q2 := Lib.hid q
    have z2 := Lib.hid z
    clear q z
    go_upto_block 0 with (first
      | (go_at_call 26; ((with_reducible refine (next_in g 4 _ q2.out.q.d (by omega) (by omega)).mono ?_); rintro e W3 ⟨f, rfl, f0, f1, hd, hg⟩; have q3 := Lib.hid (q2.out.call hlt hd hg); clear hd hg q2))
      | (go_at_call 47; ((with_reducible refine (header_in g f _ q3.out.q.d (by omega) (by omega)).mono ?_); rintro e W4 ⟨h, rfl, hv, -, hd, hg⟩; have q4 := Lib.hid (q3.out.call hlt hd hg); have HV := Lib.hid hv; have H4 := Lib.hid (OB.new (g := g) (W := W4) 23 #[.int .i64 h.kind, .int .i64 h.tos, .int .i64 h.id, .int .i64 h.fixed, .int .i64 h.ttl, .int .i64 h.frm, .int .i64 h.to, .int .i64 h.fromPort, .int .i64 h.toPort, .int .i64 h.check, .int .i64 h.marker, .int .i64 h.type, .int .i64 h.seq, .int .i64 h.time, .int .i64 h.source] hd.lt); have q5 := Lib.hid (q4.out.alloc (.cells #[.int .i64 h.kind, .int .i64 h.tos, .int .i64 h.id, .int .i64 h.fixed, .int .i64 h.ttl, .int .i64 h.frm, .int .i64 h.to, .int .i64 h.fromPort, .int .i64 h.toPort, .int .i64 h.check, .int .i64 h.marker, .int .i64 h.type, .int .i64 h.seq, .int .i64 h.time, .int .i64 h.source] 23)); have nH : W4.heap.size ≠ B := (fun e => by have := q4.out.k.lt; omega); have c5 := cells_of q5.out.k; clear hv hd hg q3 q4))
      | fail)
    generalize W4.alloc (.cells #[.int .i64 h.kind, .int .i64 h.tos, .int .i64 h.id, .int .i64 h.fixed, .int .i64 h.ttl, .int .i64 h.frm, .int .i64 h.to, .int .i64 h.fromPort, .int .i64 h.toPort, .int .i64 h.check, .int .i64 h.marker, .int .i64 h.type, .int .i64 h.seq, .int .i64 h.time, .int .i64 h.source] 23) = W5 at q5 H4 c5 ⊢
    generalize W4.heap.size = hB at H4 nH ⊢
    have c6 := cells_of H4.out.k
    rcases (show s.fmt = 1 ∨ s.fmt = 2 ∨ s.fmt = 3 ∨ s.fmt = 4 ∨ s.fmt = 5 ∨ s.fmt = 6 by have := z2.out.fmt; omega) with f | f | f | f | f | f
    · rcases (show h.kind = 1 ∨ h.kind = 2 by rcases HV.out.2 with ⟨k, _⟩ | ⟨k, _⟩ <;> simp [k]) with k | k
      · as_aux_lemma =>
          have f1 : (s.fmt == 1) = true := by rw [f]; rfl
          have f2 : (s.fmt == 2) = false := by rw [f]; rfl
          have f3 : (s.fmt == 3) = false := by rw [f]; rfl
          have f4 : (s.fmt == 4) = false := by rw [f]; rfl
          have f5 : (s.fmt == 5) = false := by rw [f]; rfl
          have f6 : (s.fmt == 6) = false := by rw [f]; rfl
          have K2 : (h.kind == 2) = false := by rw [k]; rfl
          have hck := HV.out.1.check0
          have hck1 := HV.out.1.check1
          have g5 := frozen_of q5.out.k
          have d5 := cells_of H4.out.k
          have fe := f
          replace fe := Lib.hid fe
          clear f
          have nB : B ≠ hB := fun e => nH e.symm
          go_upto_region 14 with fail
          have d50 := d5 0
          have d59 := d5 9
          go_region_held3 (fun W' => W'.cell? ⟨hB, 0, none⟩ = some (.int .i64 h.kind) ∧ W'.cell? ⟨hB, 9, none⟩ = some (.int .i64 h.check)) (go_keep) (fail)
          have kk := (blk_set (blk_set q5.out.k 7 (.int .i64 (1))) 6 (.int .i64 (h.check)))
          simp only [List.setIfInBounds_toArray, List.set_cons_succ, List.set_cons_zero] at kk
          have p5 := Lib.hid (q5.out.put (s' := { s with h := { s.h with kind := 1 }, udp := h.check }) (grown_self ((grown_self (World.grownBy.refl _ _) _ _)) _ _) kk ⟨rfl, rfl, rfl, rfl⟩ hlt)
          clear kk c5 g5 q5
          have q6 := Lib.hid p5.out.drew
          clear p5 d5 d50 d59
          generalize ((W5.setCell ⟨B, 7, none⟩ (.int .i64 1)).setCell ⟨B, 6, none⟩ (.int .i64 h.check)).drew = W6 at q6 ⊢
          have c6 := cells_of q6.out.k
          have g6 := frozen_of q6.out.k
          go_upto_region 25 with (first | (go_at_call 26; ((with_reducible refine (next_in g _ _ q6.out.q.d (by omega) (by omega)).mono ?_); rintro e W7 ⟨x, rfl, xa, xb, hd, hg⟩; have q7 := Lib.hid (q6.out.call hlt hd hg); have c7 := cells_of q7.out.k; have g7 := frozen_of q7.out.k; clear hd hg q6)) | (go_at_call 26; ((with_reducible refine (next_in g _ _ q7.out.q.d (by omega) (by omega)).mono ?_); rintro e W8 ⟨y, rfl, ya, yb, hd, hg⟩; have q8 := Lib.hid (q7.out.call hlt hd hg); have c8 := cells_of q8.out.k; have g8 := frozen_of q8.out.k; clear hd hg q7)) | fail)
          have kk := (blk_set (blk_set q8.out.k 2 (.int .i64 (x))) 24 (.int .i64 (y)))
          simp only [List.setIfInBounds_toArray, List.set_cons_succ, List.set_cons_zero] at kk
          have p8 := Lib.hid (q8.out.put (s' := ⟨s.ctx, s.fmt, x, s.time, s.mark, s.id, h.check, { s.h with kind := 1 }, s.ds, s.df, y, s.pa, s.pn, s.pc, s.pz⟩) (grown_self ((grown_self (World.grownBy.refl _ _) _ _)) _ _) kk ⟨rfl, rfl, rfl, rfl⟩ hlt)
          clear kk c8 g8 q8
          generalize ((W8.setCell ⟨B, 2, none⟩ (.int .i64 x)).setCell ⟨B, 24, none⟩ (.int .i64 y)) = WZ at p8 ⊢
          have SV := small_low z2.out p8.out.p.n 1 h.check x s.time s.mark s.id y (by have := fe.out; omega) (.inl rfl) (by rw [fe.out]; simp [smNumM]; omega) (by rw [fe.out]; simp [smTimeM, z2.out.z.2.1]) (by rw [fe.out]; simp [smMarkM, z2.out.z.2.2.1]) (by rw [fe.out]; simp [smIdM, z2.out.z.2.2.2.1]) (by rw [fe.out]; simp [smChkM]; omega) ⟨hck, hck1⟩
          refine wp_region_lit ?_
          refine wpList_load_sm (s := ⟨s.ctx, s.fmt, x, s.time, s.mark, s.id, h.check, { s.h with kind := 1 }, s.ds, s.df, y, s.pa, s.pn, s.pc, s.pz⟩) p8.out.k rfl _ rfl rfl ?_
          refine wpList_store_blk (n := 26) rfl rfl _ _ rfl rfl rfl p8.out.q.zr rfl rfl info_sm (by simp [Value.oneCell']) ?_
          intro W9 K9 G9
          simp only [Act.put, List.setIfInBounds_toArray, List.set_cons_zero, List.set_cons_succ]
          have e9 := Lib.hid (p8.out.fin G9 hlt)
          have L9 := Lib.hid (show Blk 28 W9 _ _ from K9)
          clear K9 G9
          go_wp2_with fail
          refine bodyPost_ret (results_sm1 Tryd.results18 _ _ _ _ rfl L9.out rfl) rfl ?_
          exact ⟨⟨s.ctx, s.fmt, x, s.time, s.mark, s.id, h.check, { s.h with kind := 1 }, s.ds, s.df, y, s.pa, s.pn, s.pc, s.pz⟩, rfl, SV.1, SV.2, e9.out.1, e9.out.2.1, e9.out.2.2⟩
      · as_aux_lemma =>
          have f1 : (s.fmt == 1) = true := by rw [f]; rfl
          have f2 : (s.fmt == 2) = false := by rw [f]; rfl
          have f3 : (s.fmt == 3) = false := by rw [f]; rfl
          have f4 : (s.fmt == 4) = false := by rw [f]; rfl
          have f5 : (s.fmt == 5) = false := by rw [f]; rfl
          have f6 : (s.fmt == 6) = false := by rw [f]; rfl
          have K2 : (h.kind == 2) = true := by rw [k]; rfl
          have hck := HV.out.1.check0
          have hck1 := HV.out.1.check1
          have g5 := frozen_of q5.out.k
          have d5 := cells_of H4.out.k
          have fe := f
          replace fe := Lib.hid fe
          clear f
          have nB : B ≠ hB := fun e => nH e.symm
          go_upto_region 14 with fail
          have d50 := d5 0
          have d59 := d5 9
          go_region_held3 (fun W' => W'.cell? ⟨hB, 0, none⟩ = some (.int .i64 h.kind) ∧ W'.cell? ⟨hB, 9, none⟩ = some (.int .i64 h.check)) (go_keep) (fail)
          have kk := (blk_set (blk_set q5.out.k 7 (.int .i64 (2))) 6 (.int .i64 (h.check)))
          simp only [List.setIfInBounds_toArray, List.set_cons_succ, List.set_cons_zero] at kk
          have p5 := Lib.hid (q5.out.put (s' := { s with h := { s.h with kind := 2 }, udp := h.check }) (grown_self ((grown_self (World.grownBy.refl _ _) _ _)) _ _) kk ⟨rfl, rfl, rfl, rfl⟩ hlt)
          clear kk c5 g5 q5
          have q6 := Lib.hid p5.out.drew
          clear p5 d5 d50 d59
          generalize ((W5.setCell ⟨B, 7, none⟩ (.int .i64 2)).setCell ⟨B, 6, none⟩ (.int .i64 h.check)).drew = W6 at q6 ⊢
          have c6 := cells_of q6.out.k
          have g6 := frozen_of q6.out.k
          go_upto_region 25 with (first | (go_at_call 26; ((with_reducible refine (next_in g _ _ q6.out.q.d (by omega) (by omega)).mono ?_); rintro e W7 ⟨x, rfl, xa, xb, hd, hg⟩; have q7 := Lib.hid (q6.out.call hlt hd hg); have c7 := cells_of q7.out.k; have g7 := frozen_of q7.out.k; clear hd hg q6)) | (go_at_call 26; ((with_reducible refine (next_in g _ _ q7.out.q.d (by omega) (by omega)).mono ?_); rintro e W8 ⟨y, rfl, ya, yb, hd, hg⟩; have q8 := Lib.hid (q7.out.call hlt hd hg); have c8 := cells_of q8.out.k; have g8 := frozen_of q8.out.k; clear hd hg q7)) | fail)
          have kk := (blk_set (blk_set q8.out.k 2 (.int .i64 (x))) 24 (.int .i64 (y)))
          simp only [List.setIfInBounds_toArray, List.set_cons_succ, List.set_cons_zero] at kk
          have p8 := Lib.hid (q8.out.put (s' := ⟨s.ctx, s.fmt, x, s.time, s.mark, s.id, h.check, { s.h with kind := 2 }, s.ds, s.df, y, s.pa, s.pn, s.pc, s.pz⟩) (grown_self ((grown_self (World.grownBy.refl _ _) _ _)) _ _) kk ⟨rfl, rfl, rfl, rfl⟩ hlt)
          clear kk c8 g8 q8
          generalize ((W8.setCell ⟨B, 2, none⟩ (.int .i64 x)).setCell ⟨B, 24, none⟩ (.int .i64 y)) = WZ at p8 ⊢
          have SV := small_low z2.out p8.out.p.n 2 h.check x s.time s.mark s.id y (by have := fe.out; omega) (.inr rfl) (by rw [fe.out]; simp [smNumM]; omega) (by rw [fe.out]; simp [smTimeM, z2.out.z.2.1]) (by rw [fe.out]; simp [smMarkM, z2.out.z.2.2.1]) (by rw [fe.out]; simp [smIdM, z2.out.z.2.2.2.1]) (by rw [fe.out]; simp [smChkM]; omega) ⟨hck, hck1⟩
          refine wp_region_lit ?_
          refine wpList_load_sm (s := ⟨s.ctx, s.fmt, x, s.time, s.mark, s.id, h.check, { s.h with kind := 2 }, s.ds, s.df, y, s.pa, s.pn, s.pc, s.pz⟩) p8.out.k rfl _ rfl rfl ?_
          refine wpList_store_blk (n := 26) rfl rfl _ _ rfl rfl rfl p8.out.q.zr rfl rfl info_sm (by simp [Value.oneCell']) ?_
          intro W9 K9 G9
          simp only [Act.put, List.setIfInBounds_toArray, List.set_cons_zero, List.set_cons_succ]
          have e9 := Lib.hid (p8.out.fin G9 hlt)
          have L9 := Lib.hid (show Blk 28 W9 _ _ from K9)
          clear K9 G9
          go_wp2_with fail
          refine bodyPost_ret (results_sm1 Tryd.results18 _ _ _ _ rfl L9.out rfl) rfl ?_
          exact ⟨⟨s.ctx, s.fmt, x, s.time, s.mark, s.id, h.check, { s.h with kind := 2 }, s.ds, s.df, y, s.pa, s.pn, s.pc, s.pz⟩, rfl, SV.1, SV.2, e9.out.1, e9.out.2.1, e9.out.2.2⟩
    · rcases (show h.kind = 1 ∨ h.kind = 2 by rcases HV.out.2 with ⟨k, _⟩ | ⟨k, _⟩ <;> simp [k]) with k | k
      · as_aux_lemma =>
          have f1 : (s.fmt == 1) = false := by rw [f]; rfl
          have f2 : (s.fmt == 2) = true := by rw [f]; rfl
          have f3 : (s.fmt == 3) = false := by rw [f]; rfl
          have f4 : (s.fmt == 4) = false := by rw [f]; rfl
          have f5 : (s.fmt == 5) = false := by rw [f]; rfl
          have f6 : (s.fmt == 6) = false := by rw [f]; rfl
          have K2 : (h.kind == 2) = false := by rw [k]; rfl
          have hck := HV.out.1.check0
          have hck1 := HV.out.1.check1
          have g5 := frozen_of q5.out.k
          have d5 := cells_of H4.out.k
          have fe := f
          replace fe := Lib.hid fe
          clear f
          have nB : B ≠ hB := fun e => nH e.symm
          go_upto_region 14 with fail
          have d50 := d5 0
          have d59 := d5 9
          go_region_held3 (fun W' => W'.cell? ⟨hB, 0, none⟩ = some (.int .i64 h.kind) ∧ W'.cell? ⟨hB, 9, none⟩ = some (.int .i64 h.check)) (go_keep) (fail)
          have kk := (blk_set (blk_set q5.out.k 7 (.int .i64 (1))) 6 (.int .i64 (h.check)))
          simp only [List.setIfInBounds_toArray, List.set_cons_succ, List.set_cons_zero] at kk
          have p5 := Lib.hid (q5.out.put (s' := { s with h := { s.h with kind := 1 }, udp := h.check }) (grown_self ((grown_self (World.grownBy.refl _ _) _ _)) _ _) kk ⟨rfl, rfl, rfl, rfl⟩ hlt)
          clear kk c5 g5 q5
          have q6 := Lib.hid p5.out.drew
          clear p5 d5 d50 d59
          generalize ((W5.setCell ⟨B, 7, none⟩ (.int .i64 1)).setCell ⟨B, 6, none⟩ (.int .i64 h.check)).drew = W6 at q6 ⊢
          have c6 := cells_of q6.out.k
          have g6 := frozen_of q6.out.k
          go_upto_region 25 with (first | (go_at_call 26; ((with_reducible refine (next_in g _ _ q6.out.q.d (by omega) (by omega)).mono ?_); rintro e W7 ⟨x, rfl, xa, xb, hd, hg⟩; have q7 := Lib.hid (q6.out.call hlt hd hg); have c7 := cells_of q7.out.k; have g7 := frozen_of q7.out.k; clear hd hg q6)) | (go_at_call 26; ((with_reducible refine (next_in g _ _ q7.out.q.d (by omega) (by omega)).mono ?_); rintro e W8 ⟨y, rfl, ya, yb, hd, hg⟩; have q8 := Lib.hid (q7.out.call hlt hd hg); have c8 := cells_of q8.out.k; have g8 := frozen_of q8.out.k; clear hd hg q7)) | fail)
          have kk := (blk_set (blk_set q8.out.k 2 (.int .i64 (x))) 24 (.int .i64 (y)))
          simp only [List.setIfInBounds_toArray, List.set_cons_succ, List.set_cons_zero] at kk
          have p8 := Lib.hid (q8.out.put (s' := ⟨s.ctx, s.fmt, x, s.time, s.mark, s.id, h.check, { s.h with kind := 1 }, s.ds, s.df, y, s.pa, s.pn, s.pc, s.pz⟩) (grown_self ((grown_self (World.grownBy.refl _ _) _ _)) _ _) kk ⟨rfl, rfl, rfl, rfl⟩ hlt)
          clear kk c8 g8 q8
          generalize ((W8.setCell ⟨B, 2, none⟩ (.int .i64 x)).setCell ⟨B, 24, none⟩ (.int .i64 y)) = WZ at p8 ⊢
          have SV := small_low z2.out p8.out.p.n 1 h.check x s.time s.mark s.id y (by have := fe.out; omega) (.inl rfl) (by rw [fe.out]; simp [smNumM]; omega) (by rw [fe.out]; simp [smTimeM, z2.out.z.2.1]) (by rw [fe.out]; simp [smMarkM, z2.out.z.2.2.1]) (by rw [fe.out]; simp [smIdM, z2.out.z.2.2.2.1]) (by rw [fe.out]; simp [smChkM]; omega) ⟨hck, hck1⟩
          refine wp_region_lit ?_
          refine wpList_load_sm (s := ⟨s.ctx, s.fmt, x, s.time, s.mark, s.id, h.check, { s.h with kind := 1 }, s.ds, s.df, y, s.pa, s.pn, s.pc, s.pz⟩) p8.out.k rfl _ rfl rfl ?_
          refine wpList_store_blk (n := 26) rfl rfl _ _ rfl rfl rfl p8.out.q.zr rfl rfl info_sm (by simp [Value.oneCell']) ?_
          intro W9 K9 G9
          simp only [Act.put, List.setIfInBounds_toArray, List.set_cons_zero, List.set_cons_succ]
          have e9 := Lib.hid (p8.out.fin G9 hlt)
          have L9 := Lib.hid (show Blk 28 W9 _ _ from K9)
          clear K9 G9
          go_wp2_with fail
          refine bodyPost_ret (results_sm1 Tryd.results18 _ _ _ _ rfl L9.out rfl) rfl ?_
          exact ⟨⟨s.ctx, s.fmt, x, s.time, s.mark, s.id, h.check, { s.h with kind := 1 }, s.ds, s.df, y, s.pa, s.pn, s.pc, s.pz⟩, rfl, SV.1, SV.2, e9.out.1, e9.out.2.1, e9.out.2.2⟩
      · as_aux_lemma =>
          have f1 : (s.fmt == 1) = false := by rw [f]; rfl
          have f2 : (s.fmt == 2) = true := by rw [f]; rfl
          have f3 : (s.fmt == 3) = false := by rw [f]; rfl
          have f4 : (s.fmt == 4) = false := by rw [f]; rfl
          have f5 : (s.fmt == 5) = false := by rw [f]; rfl
          have f6 : (s.fmt == 6) = false := by rw [f]; rfl
          have K2 : (h.kind == 2) = true := by rw [k]; rfl
          have hck := HV.out.1.check0
          have hck1 := HV.out.1.check1
          have g5 := frozen_of q5.out.k
          have d5 := cells_of H4.out.k
          have fe := f
          replace fe := Lib.hid fe
          clear f
          have nB : B ≠ hB := fun e => nH e.symm
          go_upto_region 14 with fail
          have d50 := d5 0
          have d59 := d5 9
          go_region_held3 (fun W' => W'.cell? ⟨hB, 0, none⟩ = some (.int .i64 h.kind) ∧ W'.cell? ⟨hB, 9, none⟩ = some (.int .i64 h.check)) (go_keep) (fail)
          have kk := (blk_set (blk_set q5.out.k 7 (.int .i64 (2))) 6 (.int .i64 (h.check)))
          simp only [List.setIfInBounds_toArray, List.set_cons_succ, List.set_cons_zero] at kk
          have p5 := Lib.hid (q5.out.put (s' := { s with h := { s.h with kind := 2 }, udp := h.check }) (grown_self ((grown_self (World.grownBy.refl _ _) _ _)) _ _) kk ⟨rfl, rfl, rfl, rfl⟩ hlt)
          clear kk c5 g5 q5
          have q6 := Lib.hid p5.out.drew
          clear p5 d5 d50 d59
          generalize ((W5.setCell ⟨B, 7, none⟩ (.int .i64 2)).setCell ⟨B, 6, none⟩ (.int .i64 h.check)).drew = W6 at q6 ⊢
          have c6 := cells_of q6.out.k
          have g6 := frozen_of q6.out.k
          go_upto_region 25 with (first | (go_at_call 26; ((with_reducible refine (next_in g _ _ q6.out.q.d (by omega) (by omega)).mono ?_); rintro e W7 ⟨x, rfl, xa, xb, hd, hg⟩; have q7 := Lib.hid (q6.out.call hlt hd hg); have c7 := cells_of q7.out.k; have g7 := frozen_of q7.out.k; clear hd hg q6)) | (go_at_call 26; ((with_reducible refine (next_in g _ _ q7.out.q.d (by omega) (by omega)).mono ?_); rintro e W8 ⟨y, rfl, ya, yb, hd, hg⟩; have q8 := Lib.hid (q7.out.call hlt hd hg); have c8 := cells_of q8.out.k; have g8 := frozen_of q8.out.k; clear hd hg q7)) | (go_at_call 26; have kk := (blk_set (blk_set q8.out.k 2 (.int .i64 (x))) 24 (.int .i64 (y))); simp only [List.setIfInBounds_toArray, List.set_cons_succ, List.set_cons_zero] at kk; have p8 := Lib.hid (q8.out.put (s' := ⟨s.ctx, s.fmt, x, s.time, s.mark, s.id, h.check, { s.h with kind := 2 }, s.ds, s.df, y, s.pa, s.pn, s.pc, s.pz⟩) (grown_self ((grown_self (World.grownBy.refl _ _) _ _)) _ _) kk ⟨rfl, rfl, rfl, rfl⟩ hlt); clear kk c8 g8 q8; have q8 := p8; clear p8; ((with_reducible refine (next_in g _ _ q8.out.q.d (by omega) (by omega)).mono ?_); rintro e W9 ⟨t, rfl, ta, tb, hd, hg⟩; have q9 := Lib.hid (q8.out.call hlt hd hg); have c9 := cells_of q9.out.k; have g9 := frozen_of q9.out.k; clear hd hg q8)) | (go_at_call 26; ((with_reducible refine (next_in g _ _ q9.out.q.d (by omega) (by omega)).mono ?_); rintro e W10 ⟨m, rfl, ma, mb, hd, hg⟩; have q10 := Lib.hid (q9.out.call hlt hd hg); have c10 := cells_of q10.out.k; have g10 := frozen_of q10.out.k; clear hd hg q9)) | fail)
          have kk := (blk_set (blk_set q10.out.k 3 (.int .i64 (t))) 4 (.int .i64 (m)))
          simp only [List.setIfInBounds_toArray, List.set_cons_succ, List.set_cons_zero] at kk
          have p10 := Lib.hid (q10.out.put (s' := ⟨s.ctx, s.fmt, x, t, m, s.id, h.check, { s.h with kind := 2 }, s.ds, s.df, y, s.pa, s.pn, s.pc, s.pz⟩) (grown_self ((grown_self (World.grownBy.refl _ _) _ _)) _ _) kk ⟨rfl, rfl, rfl, rfl⟩ hlt)
          clear kk c10 g10 q10
          generalize ((W10.setCell ⟨B, 3, none⟩ (.int .i64 t)).setCell ⟨B, 4, none⟩ (.int .i64 m)) = WZ at p10 ⊢
          have SV := small_low z2.out p10.out.p.n 2 h.check x t m s.id y (by have := fe.out; omega) (.inr rfl) (by rw [fe.out]; simp [smNumM]; omega) (by rw [fe.out]; simp [smTimeM]; omega) (by rw [fe.out]; simp [smMarkM]; omega) (by rw [fe.out]; simp [smIdM, z2.out.z.2.2.2.1]) (by rw [fe.out]; simp [smChkM]; omega) ⟨hck, hck1⟩
          refine wp_region_lit ?_
          refine wpList_load_sm (s := ⟨s.ctx, s.fmt, x, t, m, s.id, h.check, { s.h with kind := 2 }, s.ds, s.df, y, s.pa, s.pn, s.pc, s.pz⟩) p10.out.k rfl _ rfl rfl ?_
          refine wpList_store_blk (n := 26) rfl rfl _ _ rfl rfl rfl p10.out.q.zr rfl rfl info_sm (by simp [Value.oneCell']) ?_
          intro W9 K9 G9
          simp only [Act.put, List.setIfInBounds_toArray, List.set_cons_zero, List.set_cons_succ]
          have e9 := Lib.hid (p10.out.fin G9 hlt)
          have L9 := Lib.hid (show Blk 28 W9 _ _ from K9)
          clear K9 G9
          go_wp2_with fail
          refine bodyPost_ret (results_sm1 Tryd.results18 _ _ _ _ rfl L9.out rfl) rfl ?_
          exact ⟨⟨s.ctx, s.fmt, x, t, m, s.id, h.check, { s.h with kind := 2 }, s.ds, s.df, y, s.pa, s.pn, s.pc, s.pz⟩, rfl, SV.1, SV.2, e9.out.1, e9.out.2.1, e9.out.2.2⟩
    · rcases (show h.kind = 1 ∨ h.kind = 2 by rcases HV.out.2 with ⟨k, _⟩ | ⟨k, _⟩ <;> simp [k]) with k | k
      · as_aux_lemma =>
          have f1 : (s.fmt == 1) = false := by rw [f]; rfl
          have f2 : (s.fmt == 2) = false := by rw [f]; rfl
          have f3 : (s.fmt == 3) = true := by rw [f]; rfl
          have f4 : (s.fmt == 4) = false := by rw [f]; rfl
          have f5 : (s.fmt == 5) = false := by rw [f]; rfl
          have f6 : (s.fmt == 6) = false := by rw [f]; rfl
          have K2 : (h.kind == 2) = false := by rw [k]; rfl
          have hck := HV.out.1.check0
          have hck1 := HV.out.1.check1
          have g5 := frozen_of q5.out.k
          have d5 := cells_of H4.out.k
          have fe := f
          replace fe := Lib.hid fe
          clear f
          have nB : B ≠ hB := fun e => nH e.symm
          go_upto_region 14 with fail
          have d50 := d5 0
          have d59 := d5 9
          go_region_held3 (fun W' => W'.cell? ⟨hB, 0, none⟩ = some (.int .i64 h.kind) ∧ W'.cell? ⟨hB, 9, none⟩ = some (.int .i64 h.check)) (go_keep) (fail)
          have kk := (blk_set (blk_set q5.out.k 7 (.int .i64 (1))) 6 (.int .i64 (h.check)))
          simp only [List.setIfInBounds_toArray, List.set_cons_succ, List.set_cons_zero] at kk
          have p5 := Lib.hid (q5.out.put (s' := { s with h := { s.h with kind := 1 }, udp := h.check }) (grown_self ((grown_self (World.grownBy.refl _ _) _ _)) _ _) kk ⟨rfl, rfl, rfl, rfl⟩ hlt)
          clear kk c5 g5 q5
          have q6 := Lib.hid p5.out.drew
          clear p5 d5 d50 d59
          generalize ((W5.setCell ⟨B, 7, none⟩ (.int .i64 1)).setCell ⟨B, 6, none⟩ (.int .i64 h.check)).drew = W6 at q6 ⊢
          have c6 := cells_of q6.out.k
          have g6 := frozen_of q6.out.k
          go_upto_region 25 with (first | (go_at_call 26; ((with_reducible refine (next_in g _ _ q6.out.q.d (by omega) (by omega)).mono ?_); rintro e W7 ⟨x, rfl, xa, xb, hd, hg⟩; have q7 := Lib.hid (q6.out.call hlt hd hg); have c7 := cells_of q7.out.k; have g7 := frozen_of q7.out.k; clear hd hg q6)) | (go_at_call 26; ((with_reducible refine (next_in g _ _ q7.out.q.d (by omega) (by omega)).mono ?_); rintro e W8 ⟨y, rfl, ya, yb, hd, hg⟩; have q8 := Lib.hid (q7.out.call hlt hd hg); have c8 := cells_of q8.out.k; have g8 := frozen_of q8.out.k; clear hd hg q7)) | fail)
          have kk := (blk_set (blk_set q8.out.k 2 (.int .i64 (x))) 24 (.int .i64 (y)))
          simp only [List.setIfInBounds_toArray, List.set_cons_succ, List.set_cons_zero] at kk
          have p8 := Lib.hid (q8.out.put (s' := ⟨s.ctx, s.fmt, x, s.time, s.mark, s.id, h.check, { s.h with kind := 1 }, s.ds, s.df, y, s.pa, s.pn, s.pc, s.pz⟩) (grown_self ((grown_self (World.grownBy.refl _ _) _ _)) _ _) kk ⟨rfl, rfl, rfl, rfl⟩ hlt)
          clear kk c8 g8 q8
          generalize ((W8.setCell ⟨B, 2, none⟩ (.int .i64 x)).setCell ⟨B, 24, none⟩ (.int .i64 y)) = WZ at p8 ⊢
          have SV := small_low z2.out p8.out.p.n 1 h.check x s.time s.mark s.id y (by have := fe.out; omega) (.inl rfl) (by rw [fe.out]; simp [smNumM]; omega) (by rw [fe.out]; simp [smTimeM, z2.out.z.2.1]) (by rw [fe.out]; simp [smMarkM, z2.out.z.2.2.1]) (by rw [fe.out]; simp [smIdM, z2.out.z.2.2.2.1]) (by rw [fe.out]; simp [smChkM]; omega) ⟨hck, hck1⟩
          refine wp_region_lit ?_
          refine wpList_load_sm (s := ⟨s.ctx, s.fmt, x, s.time, s.mark, s.id, h.check, { s.h with kind := 1 }, s.ds, s.df, y, s.pa, s.pn, s.pc, s.pz⟩) p8.out.k rfl _ rfl rfl ?_
          refine wpList_store_blk (n := 26) rfl rfl _ _ rfl rfl rfl p8.out.q.zr rfl rfl info_sm (by simp [Value.oneCell']) ?_
          intro W9 K9 G9
          simp only [Act.put, List.setIfInBounds_toArray, List.set_cons_zero, List.set_cons_succ]
          have e9 := Lib.hid (p8.out.fin G9 hlt)
          have L9 := Lib.hid (show Blk 28 W9 _ _ from K9)
          clear K9 G9
          go_wp2_with fail
          refine bodyPost_ret (results_sm1 Tryd.results18 _ _ _ _ rfl L9.out rfl) rfl ?_
          exact ⟨⟨s.ctx, s.fmt, x, s.time, s.mark, s.id, h.check, { s.h with kind := 1 }, s.ds, s.df, y, s.pa, s.pn, s.pc, s.pz⟩, rfl, SV.1, SV.2, e9.out.1, e9.out.2.1, e9.out.2.2⟩
      · as_aux_lemma =>
          have f1 : (s.fmt == 1) = false := by rw [f]; rfl
          have f2 : (s.fmt == 2) = false := by rw [f]; rfl
          have f3 : (s.fmt == 3) = true := by rw [f]; rfl
          have f4 : (s.fmt == 4) = false := by rw [f]; rfl
          have f5 : (s.fmt == 5) = false := by rw [f]; rfl
          have f6 : (s.fmt == 6) = false := by rw [f]; rfl
          have K2 : (h.kind == 2) = true := by rw [k]; rfl
          have hck := HV.out.1.check0
          have hck1 := HV.out.1.check1
          have g5 := frozen_of q5.out.k
          have d5 := cells_of H4.out.k
          have fe := f
          replace fe := Lib.hid fe
          clear f
          have nB : B ≠ hB := fun e => nH e.symm
          go_upto_region 14 with fail
          have d50 := d5 0
          have d59 := d5 9
          go_region_held3 (fun W' => W'.cell? ⟨hB, 0, none⟩ = some (.int .i64 h.kind) ∧ W'.cell? ⟨hB, 9, none⟩ = some (.int .i64 h.check)) (go_keep) (fail)
          have kk := (blk_set (blk_set q5.out.k 7 (.int .i64 (2))) 6 (.int .i64 (h.check)))
          simp only [List.setIfInBounds_toArray, List.set_cons_succ, List.set_cons_zero] at kk
          have p5 := Lib.hid (q5.out.put (s' := { s with h := { s.h with kind := 2 }, udp := h.check }) (grown_self ((grown_self (World.grownBy.refl _ _) _ _)) _ _) kk ⟨rfl, rfl, rfl, rfl⟩ hlt)
          clear kk c5 g5 q5
          have q6 := Lib.hid p5.out.drew
          clear p5 d5 d50 d59
          generalize ((W5.setCell ⟨B, 7, none⟩ (.int .i64 2)).setCell ⟨B, 6, none⟩ (.int .i64 h.check)).drew = W6 at q6 ⊢
          have c6 := cells_of q6.out.k
          have g6 := frozen_of q6.out.k
          go_upto_region 25 with (first | (go_at_call 26; ((with_reducible refine (next_in g _ _ q6.out.q.d (by omega) (by omega)).mono ?_); rintro e W7 ⟨x, rfl, xa, xb, hd, hg⟩; have q7 := Lib.hid (q6.out.call hlt hd hg); have c7 := cells_of q7.out.k; have g7 := frozen_of q7.out.k; clear hd hg q6)) | (go_at_call 26; ((with_reducible refine (next_in g _ _ q7.out.q.d (by omega) (by omega)).mono ?_); rintro e W8 ⟨y, rfl, ya, yb, hd, hg⟩; have q8 := Lib.hid (q7.out.call hlt hd hg); have c8 := cells_of q8.out.k; have g8 := frozen_of q8.out.k; clear hd hg q7)) | (go_at_call 26; have kk := (blk_set (blk_set q8.out.k 2 (.int .i64 (x))) 24 (.int .i64 (y))); simp only [List.setIfInBounds_toArray, List.set_cons_succ, List.set_cons_zero] at kk; have p8 := Lib.hid (q8.out.put (s' := ⟨s.ctx, s.fmt, x, s.time, s.mark, s.id, h.check, { s.h with kind := 2 }, s.ds, s.df, y, s.pa, s.pn, s.pc, s.pz⟩) (grown_self ((grown_self (World.grownBy.refl _ _) _ _)) _ _) kk ⟨rfl, rfl, rfl, rfl⟩ hlt); clear kk c8 g8 q8; have q8 := p8; clear p8; ((with_reducible refine (next_in g _ _ q8.out.q.d (by omega) (by omega)).mono ?_); rintro e W9 ⟨n, rfl, na, nb, hd, hg⟩; have q9 := Lib.hid (q8.out.call hlt hd hg); have c9 := cells_of q9.out.k; have g9 := frozen_of q9.out.k; clear hd hg q8)) | (go_at_call 49; ((with_reducible refine (word_in g 4294967295 _ q9.out.q.d (by omega) (by omega)).mono ?_); rintro e W10 ⟨t, rfl, ta, tb, hd, hg⟩; have q10 := Lib.hid (q9.out.call hlt hd hg); have c10 := cells_of q10.out.k; have g10 := frozen_of q10.out.k; clear hd hg q9)) | (go_at_call 26; ((with_reducible refine (next_in g _ _ q10.out.q.d (by omega) (by omega)).mono ?_); rintro e W11 ⟨m, rfl, ma, mb, hd, hg⟩; have q11 := Lib.hid (q10.out.call hlt hd hg); have c11 := cells_of q11.out.k; have g11 := frozen_of q11.out.k; clear hd hg q10)) | (go_at_call 26; ((with_reducible refine (next_in g _ _ q11.out.q.d (by omega) (by omega)).mono ?_); rintro e W12 ⟨i, rfl, ia, ib, hd, hg⟩; have q12 := Lib.hid (q11.out.call hlt hd hg); have c12 := cells_of q12.out.k; have g12 := frozen_of q12.out.k; clear hd hg q11)) | fail)
          have kk := (blk_set (blk_set (blk_set (blk_set q12.out.k 2 (.int .i64 (n))) 3 (.int .i64 (t))) 4 (.int .i64 (m))) 5 (.int .i64 (i)))
          simp only [List.setIfInBounds_toArray, List.set_cons_succ, List.set_cons_zero] at kk
          have p12 := Lib.hid (q12.out.put (s' := ⟨s.ctx, s.fmt, n, t, m, i, h.check, { s.h with kind := 2 }, s.ds, s.df, y, s.pa, s.pn, s.pc, s.pz⟩) (grown_self ((grown_self ((grown_self ((grown_self (World.grownBy.refl _ _) _ _)) _ _)) _ _)) _ _) kk ⟨rfl, rfl, rfl, rfl⟩ hlt)
          clear kk c12 g12 q12
          generalize ((((W12.setCell ⟨B, 2, none⟩ (.int .i64 n)).setCell ⟨B, 3, none⟩ (.int .i64 t)).setCell ⟨B, 4, none⟩ (.int .i64 m)).setCell ⟨B, 5, none⟩ (.int .i64 i)) = WZ at p12 ⊢
          have SV := small_low z2.out p12.out.p.n 2 h.check n t m i y (by have := fe.out; omega) (.inr rfl) (by rw [fe.out]; simp [smNumM]; omega) (by rw [fe.out]; simp [smTimeM]; omega) (by rw [fe.out]; simp [smMarkM]; omega) (by rw [fe.out]; simp [smIdM]; omega) (by rw [fe.out]; simp [smChkM]; omega) ⟨hck, hck1⟩
          refine wp_region_lit ?_
          refine wpList_load_sm (s := ⟨s.ctx, s.fmt, n, t, m, i, h.check, { s.h with kind := 2 }, s.ds, s.df, y, s.pa, s.pn, s.pc, s.pz⟩) p12.out.k rfl _ rfl rfl ?_
          refine wpList_store_blk (n := 26) rfl rfl _ _ rfl rfl rfl p12.out.q.zr rfl rfl info_sm (by simp [Value.oneCell']) ?_
          intro W9 K9 G9
          simp only [Act.put, List.setIfInBounds_toArray, List.set_cons_zero, List.set_cons_succ]
          have e9 := Lib.hid (p12.out.fin G9 hlt)
          have L9 := Lib.hid (show Blk 28 W9 _ _ from K9)
          clear K9 G9
          go_wp2_with fail
          refine bodyPost_ret (results_sm1 Tryd.results18 _ _ _ _ rfl L9.out rfl) rfl ?_
          exact ⟨⟨s.ctx, s.fmt, n, t, m, i, h.check, { s.h with kind := 2 }, s.ds, s.df, y, s.pa, s.pn, s.pc, s.pz⟩, rfl, SV.1, SV.2, e9.out.1, e9.out.2.1, e9.out.2.2⟩
    · as_aux_lemma =>
        have f1 : (s.fmt == 1) = false := by rw [f]; rfl
        have f2 : (s.fmt == 2) = false := by rw [f]; rfl
        have f3 : (s.fmt == 3) = false := by rw [f]; rfl
        have f4 : (s.fmt == 4) = true := by rw [f]; rfl
        have f5 : (s.fmt == 5) = false := by rw [f]; rfl
        have f6 : (s.fmt == 6) = false := by rw [f]; rfl
        have fe := f
        replace fe := Lib.hid fe
        clear f
        have g5 := frozen_of q5.out.k
        have d5 := cells_of H4.out.k
        have nB : B ≠ hB := fun e => nH e.symm
        go_upto_region 10 with fail
        have Q5 := Lib.hid q5.out.drew
        have D5 := Lib.hid (show OB 23 g W5.drew hB #[.int .i64 h.kind, .int .i64 h.tos, .int .i64 h.id, .int .i64 h.fixed, .int .i64 h.ttl, .int .i64 h.frm, .int .i64 h.to, .int .i64 h.fromPort, .int .i64 h.toPort, .int .i64 h.check, .int .i64 h.marker, .int .i64 h.type, .int .i64 h.seq, .int .i64 h.time, .int .i64 h.source] from ⟨H4.out.k, H4.out.n⟩)
        refine wp_region_noPanic ?_
        refine wp_region_held_drew (S := fun W => Blk 23 W hB #[.int .i64 h.kind, .int .i64 h.tos, .int .i64 h.id, .int .i64 h.fixed, .int .i64 h.ttl, .int .i64 h.frm, .int .i64 h.to, .int .i64 h.fromPort, .int .i64 h.toPort, .int .i64 h.check, .int .i64 h.marker, .int .i64 h.type, .int .i64 h.seq, .int .i64 h.time, .int .i64 h.source]) (by kernel_rfl) D5.out.k (fun hHeld => ?_)
        generalize hW6 : W5.drew = W6 at Q5 D5 hHeld ⊢
        clear hW6 q5 d5 c5 g5 H4
        refine take_lit (i := 0) (v := (.agg #[.int .i64 h.kind, .int .i64 h.tos, .int .i64 h.id, .int .i64 h.fixed, .int .i64 h.ttl, .int .i64 h.frm, .int .i64 h.to, .int .i64 h.fromPort, .int .i64 h.toPort, .int .i64 h.check, .int .i64 h.marker, .int .i64 h.type, .int .i64 h.seq, .int .i64 h.time, .int .i64 h.source])) 33 rfl rfl (by kernel_rfl) (by kernel_rfl) (by kernel_rfl) (fun _ _ _ h => h) (yieldsIf_load_mid (by rfl) _ _ rfl _ _ rfl _ _ (fun W q => hd_range q) Tryd.underlying23 rfl info_hd4) (by assumption) ?_
        simp only [Act.put, List.setIfInBounds_toArray, List.set_cons_zero, List.set_cons_succ]
        refine take_lit (i := 1) (v := .pointer (some ⟨g, 0, none⟩)) 34 rfl rfl (by kernel_rfl) (by kernel_rfl) (by kernel_rfl) (fun _ _ _ h => h) (Or.inl ⟨by rfl, fun w hSw => by clear hSw; go_simp⟩) (by assumption) ?_
        simp only [Act.put, List.setIfInBounds_toArray, List.set_cons_zero, List.set_cons_succ]
        refine take_lit (i := 2) (v := .pointer (some ⟨hB, 0, none⟩)) 35 rfl rfl (by kernel_rfl) (by kernel_rfl) (by kernel_rfl) (fun _ _ _ h => h) (Or.inl ⟨by rfl, fun w hSw => by clear hSw; go_simp⟩) (by assumption) ?_
        simp only [Act.put, List.setIfInBounds_toArray, List.set_cons_zero, List.set_cons_succ]
        refine take_lit (i := 3) (v := .int .i64 h.kind) 36 rfl rfl (by kernel_rfl) (by kernel_rfl) (by kernel_rfl) (fun _ _ _ h => h) (Or.inl ⟨by rfl, fun W hS => by have h9 : W.cell? ⟨hB, 0, none⟩ = some (.int .i64 h.kind) := cells_of hS 0; clear hS; go_simp⟩) (by assumption) ?_
        simp only [Act.put, List.setIfInBounds_toArray, List.set_cons_zero, List.set_cons_succ]
        refine take_lit (i := 5) (v := .pointer (some ⟨g, 0, none⟩)) 38 rfl rfl (by kernel_rfl) (by kernel_rfl) (by kernel_rfl) (fun _ _ _ h => h) (Or.inl ⟨by rfl, fun w hSw => by clear hSw; go_simp⟩) (by assumption) ?_
        simp only [Act.put, List.setIfInBounds_toArray, List.set_cons_zero, List.set_cons_succ]
        refine take_lit (i := 7) (v := .pointer (some ⟨B, 7, none⟩)) 40 rfl rfl (by kernel_rfl) (by kernel_rfl) (by kernel_rfl) (fun _ _ _ h => h) (Or.inl ⟨by rfl, fun w hSw => by clear hSw; go_simp⟩) (by assumption) ?_
        simp only [Act.put, List.setIfInBounds_toArray, List.set_cons_zero, List.set_cons_succ]
        refine wpAnyH_ready (rs := [4]) (by kernel_rfl) (by simp) ?_
        refine AllReadyH.cons rfl (fun K hK => ?_) AllReadyH.nil
        refine step_call 37 rfl 48 #[.pointer (some ⟨g, 0, none⟩), .int .i64 h.kind] (by kernel_rfl) (by kernel_rfl) (dynamic_in g h.kind _ Q5.out.q.d) ?_
        rintro e W7 ⟨x, y, rfl, hdy, hd, hg⟩
        have Q7 := Lib.hid (Q5.out.call hlt hd hg)
        have D7 := Lib.hid (D5.out.call hg)
        refine ⟨_, rfl, ?_⟩
        refine hK.out _ _ D7.out.k (fun hHeld => ?_)
        simp only [Act.put, List.setIfInBounds_toArray, List.set_cons_zero, List.set_cons_succ]
        clear hK K hd hg Q5 D5
        refine wpAnyH_ready (rs := [6]) (by kernel_rfl) (by simp) ?_
        refine AllReadyH.cons rfl (fun K hK => ?_) AllReadyH.nil
        refine step_call 39 rfl 26 #[.pointer (some ⟨g, 0, none⟩), .int .i64 256] (by kernel_rfl) (by kernel_rfl) (next_in g 256 _ Q7.out.q.d (by omega) (by omega)) ?_
        rintro e W8 ⟨c, rfl, ca, cb, hd, hg⟩
        have Q8 := Lib.hid (Q7.out.call hlt hd hg)
        have D8 := Lib.hid (D7.out.call hg)
        refine ⟨_, rfl, ?_⟩
        refine hK.out _ _ D8.out.k (fun hHeld => ?_)
        simp only [Act.put, List.setIfInBounds_toArray, List.set_cons_zero, List.set_cons_succ]
        clear hK K hd hg Q7 D7
        refine wpAnyH_ready (rs := [8]) (by kernel_rfl) (by simp) ?_
        refine AllReadyH.cons rfl (fun K hK => ?_) AllReadyH.nil
        refine step_store_part (n := 15) (m := 26) (by kernel_rfl) rfl (.tmp 40) (.tmp 33) rfl rfl rfl Q8.out.k rfl (by decide) rfl info_hd4 (by simp [Value.oneCell']) ?_
        intro W9 K9 G9
        have Q9 := Lib.hid (Q8.out.putH G9 K9 hlt)
        have D9 := Lib.hid (D8.out.k.keepRow G9 (fun e => nB (Option.some.inj e)))
        refine hK.out _ _ D9.out (fun hHeld => ?_)
        clear hK K K9 G9 Q8 D8
        refine take_lit (i := 9) (v := .pointer (some ⟨B, 22, none⟩)) 41 rfl rfl (by kernel_rfl) (by kernel_rfl) (by kernel_rfl) (fun _ _ _ h => h) (Or.inl ⟨by rfl, fun w hSw => by clear hSw; go_simp⟩) (by assumption) ?_
        simp only [Act.put, List.setIfInBounds_toArray, List.set_cons_zero, List.set_cons_succ]
        refine wpAnyH_ready (rs := [10]) (by kernel_rfl) (by simp) ?_
        refine AllReadyH.cons rfl (fun K hK => ?_) AllReadyH.nil
        refine step_store_part (n := 2) (m := 26) (by kernel_rfl) rfl (.tmp 41) (.tmp 37) rfl rfl rfl Q9.out.k rfl (by decide) rfl info_dy4 (by simp [Value.oneCell']) ?_
        intro W10 K9 G9
        have Q10 := Lib.hid (show SQ w W10 g B ⟨s.ctx, s.fmt, s.num, s.time, s.mark, s.id, s.udp, h, x, y, s.chk, s.pa, s.pn, s.pc, s.pz⟩ from Q9.out.putD G9 K9 hlt)
        have D10 := Lib.hid (D9.out.keepRow G9 (fun e => nB (Option.some.inj e)))
        refine hK.out _ _ D10.out (fun hHeld => ?_)
        clear hK K K9 G9 Q9 D9
        refine take_lit (i := 11) (v := .pointer (some ⟨B, 24, none⟩)) 42 rfl rfl (by kernel_rfl) (by kernel_rfl) (by kernel_rfl) (fun _ _ _ h => h) (Or.inl ⟨by rfl, fun w hSw => by clear hSw; go_simp⟩) (by assumption) ?_
        simp only [Act.put, List.setIfInBounds_toArray, List.set_cons_zero, List.set_cons_succ]
        refine wpAnyH_ready (rs := [12]) (by kernel_rfl) (by simp) ?_
        refine AllReadyH.cons rfl (fun K hK => ?_) AllReadyH.nil
        have c10 := cells_of Q10.out.k
        have g10 := frozen_of Q10.out.k
        refine step_any (by kernel_rfl) ?_
        go_simp
        have kk := blk_set Q10.out.k 24 (.int .i64 c)
        simp only [List.setIfInBounds_toArray, List.set_cons_succ, List.set_cons_zero] at kk
        have p11 := Lib.hid (Q10.out.put (s' := ⟨s.ctx, s.fmt, s.num, s.time, s.mark, s.id, s.udp, h, x, y, c, s.pa, s.pn, s.pc, s.pz⟩) (grown_self (World.grownBy.refl _ _) _ _) kk ⟨rfl, rfl, rfl, rfl⟩ hlt)
        have D11 := Lib.hid (D10.out.keepRow (grown_self (World.grownBy.refl W10 (some B)) 24 (.int .i64 c)) (fun e => nB (Option.some.inj e)))
        refine hK.out _ _ D11.out (fun hHeld => ?_)
        clear hK K kk c10 g10 D10 D11
        generalize W10.setCell ⟨B, 24, none⟩ (.int .i64 c) = W11 at p11 hHeld ⊢
        refine wpAnyH_done (by kernel_rfl) ?_ _
        refine NoPanic.normal ?_
        have c11 := cells_of p11.out.k
        have g11 := frozen_of p11.out.k
        go_upto_region 13 with fail
        have q11 := p11
        clear p11
        have kk := (blk_set (blk_set (blk_set (blk_set (blk_set q11.out.k 12 (.int .i64 (0))) 13 (.int .i64 (0))) 14 (.int .i64 (0))) 15 (.int .i64 (0))) 21 (.int .i64 (0)))
        simp only [List.setIfInBounds_toArray, List.set_cons_succ, List.set_cons_zero] at kk
        have p11 := Lib.hid (q11.out.put (s' := ⟨s.ctx, s.fmt, s.num, s.time, s.mark, s.id, s.udp, noStat h, x, y, c, s.pa, s.pn, s.pc, s.pz⟩) (grown_self ((grown_self ((grown_self ((grown_self ((grown_self (World.grownBy.refl _ _) _ _)) _ _)) _ _)) _ _)) _ _) kk ⟨rfl, rfl, rfl, rfl⟩ hlt)
        clear kk c11 g11 q11
        generalize (((((W11.setCell ⟨B, 12, none⟩ (.int .i64 0)).setCell ⟨B, 13, none⟩ (.int .i64 0)).setCell ⟨B, 14, none⟩ (.int .i64 0)).setCell ⟨B, 15, none⟩ (.int .i64 0)).setCell ⟨B, 21, none⟩ (.int .i64 0)) = WZ at p11 ⊢
        have nv := noStat_valid HV.out
        have SV := small_big z2.out p11.out.p.n (noStat h) x y c (.inl fe.out) nv.1 (fun _ => nv.2) (show DynS (noStat h).kind x y from hdy) ⟨ca, by omega⟩
        refine wp_region_lit ?_
        refine wpList_load_sm (s := ⟨s.ctx, s.fmt, s.num, s.time, s.mark, s.id, s.udp, noStat h, x, y, c, s.pa, s.pn, s.pc, s.pz⟩) p11.out.k rfl _ rfl rfl ?_
        refine wpList_store_blk (n := 26) rfl rfl _ _ rfl rfl rfl p11.out.q.zr rfl rfl info_sm (by simp [Value.oneCell']) ?_
        intro W9 K9 G9
        simp only [Act.put, List.setIfInBounds_toArray, List.set_cons_zero, List.set_cons_succ]
        have e9 := Lib.hid (p11.out.fin G9 hlt)
        have L9 := Lib.hid (show Blk 28 W9 _ _ from K9)
        clear K9 G9
        go_wp2_with fail
        refine bodyPost_ret (results_sm1 Tryd.results18 _ _ _ _ rfl L9.out rfl) rfl ?_
        exact ⟨⟨s.ctx, s.fmt, s.num, s.time, s.mark, s.id, s.udp, noStat h, x, y, c, s.pa, s.pn, s.pc, s.pz⟩, rfl, SV.1, SV.2, e9.out.1, e9.out.2.1, e9.out.2.2⟩
    · as_aux_lemma =>
        have f1 : (s.fmt == 1) = false := by rw [f]; rfl
        have f2 : (s.fmt == 2) = false := by rw [f]; rfl
        have f3 : (s.fmt == 3) = false := by rw [f]; rfl
        have f4 : (s.fmt == 4) = false := by rw [f]; rfl
        have f5 : (s.fmt == 5) = true := by rw [f]; rfl
        have f6 : (s.fmt == 6) = false := by rw [f]; rfl
        have fe := f
        replace fe := Lib.hid fe
        clear f
        have g5 := frozen_of q5.out.k
        have d5 := cells_of H4.out.k
        have nB : B ≠ hB := fun e => nH e.symm
        go_upto_region 10 with fail
        have Q5 := Lib.hid q5.out.drew
        have D5 := Lib.hid (show OB 23 g W5.drew hB #[.int .i64 h.kind, .int .i64 h.tos, .int .i64 h.id, .int .i64 h.fixed, .int .i64 h.ttl, .int .i64 h.frm, .int .i64 h.to, .int .i64 h.fromPort, .int .i64 h.toPort, .int .i64 h.check, .int .i64 h.marker, .int .i64 h.type, .int .i64 h.seq, .int .i64 h.time, .int .i64 h.source] from ⟨H4.out.k, H4.out.n⟩)
        refine wp_region_noPanic ?_
        refine wp_region_held_drew (S := fun W => Blk 23 W hB #[.int .i64 h.kind, .int .i64 h.tos, .int .i64 h.id, .int .i64 h.fixed, .int .i64 h.ttl, .int .i64 h.frm, .int .i64 h.to, .int .i64 h.fromPort, .int .i64 h.toPort, .int .i64 h.check, .int .i64 h.marker, .int .i64 h.type, .int .i64 h.seq, .int .i64 h.time, .int .i64 h.source]) (by kernel_rfl) D5.out.k (fun hHeld => ?_)
        generalize hW6 : W5.drew = W6 at Q5 D5 hHeld ⊢
        clear hW6 q5 d5 c5 g5 H4
        refine take_lit (i := 0) (v := (.agg #[.int .i64 h.kind, .int .i64 h.tos, .int .i64 h.id, .int .i64 h.fixed, .int .i64 h.ttl, .int .i64 h.frm, .int .i64 h.to, .int .i64 h.fromPort, .int .i64 h.toPort, .int .i64 h.check, .int .i64 h.marker, .int .i64 h.type, .int .i64 h.seq, .int .i64 h.time, .int .i64 h.source])) 33 rfl rfl (by kernel_rfl) (by kernel_rfl) (by kernel_rfl) (fun _ _ _ h => h) (yieldsIf_load_mid (by rfl) _ _ rfl _ _ rfl _ _ (fun W q => hd_range q) Tryd.underlying23 rfl info_hd4) (by assumption) ?_
        simp only [Act.put, List.setIfInBounds_toArray, List.set_cons_zero, List.set_cons_succ]
        refine take_lit (i := 1) (v := .pointer (some ⟨g, 0, none⟩)) 34 rfl rfl (by kernel_rfl) (by kernel_rfl) (by kernel_rfl) (fun _ _ _ h => h) (Or.inl ⟨by rfl, fun w hSw => by clear hSw; go_simp⟩) (by assumption) ?_
        simp only [Act.put, List.setIfInBounds_toArray, List.set_cons_zero, List.set_cons_succ]
        refine take_lit (i := 2) (v := .pointer (some ⟨hB, 0, none⟩)) 35 rfl rfl (by kernel_rfl) (by kernel_rfl) (by kernel_rfl) (fun _ _ _ h => h) (Or.inl ⟨by rfl, fun w hSw => by clear hSw; go_simp⟩) (by assumption) ?_
        simp only [Act.put, List.setIfInBounds_toArray, List.set_cons_zero, List.set_cons_succ]
        refine take_lit (i := 3) (v := .int .i64 h.kind) 36 rfl rfl (by kernel_rfl) (by kernel_rfl) (by kernel_rfl) (fun _ _ _ h => h) (Or.inl ⟨by rfl, fun W hS => by have h9 : W.cell? ⟨hB, 0, none⟩ = some (.int .i64 h.kind) := cells_of hS 0; clear hS; go_simp⟩) (by assumption) ?_
        simp only [Act.put, List.setIfInBounds_toArray, List.set_cons_zero, List.set_cons_succ]
        refine take_lit (i := 5) (v := .pointer (some ⟨g, 0, none⟩)) 38 rfl rfl (by kernel_rfl) (by kernel_rfl) (by kernel_rfl) (fun _ _ _ h => h) (Or.inl ⟨by rfl, fun w hSw => by clear hSw; go_simp⟩) (by assumption) ?_
        simp only [Act.put, List.setIfInBounds_toArray, List.set_cons_zero, List.set_cons_succ]
        refine take_lit (i := 7) (v := .pointer (some ⟨B, 7, none⟩)) 40 rfl rfl (by kernel_rfl) (by kernel_rfl) (by kernel_rfl) (fun _ _ _ h => h) (Or.inl ⟨by rfl, fun w hSw => by clear hSw; go_simp⟩) (by assumption) ?_
        simp only [Act.put, List.setIfInBounds_toArray, List.set_cons_zero, List.set_cons_succ]
        refine wpAnyH_ready (rs := [4]) (by kernel_rfl) (by simp) ?_
        refine AllReadyH.cons rfl (fun K hK => ?_) AllReadyH.nil
        refine step_call 37 rfl 48 #[.pointer (some ⟨g, 0, none⟩), .int .i64 h.kind] (by kernel_rfl) (by kernel_rfl) (dynamic_in g h.kind _ Q5.out.q.d) ?_
        rintro e W7 ⟨x, y, rfl, hdy, hd, hg⟩
        have Q7 := Lib.hid (Q5.out.call hlt hd hg)
        have D7 := Lib.hid (D5.out.call hg)
        refine ⟨_, rfl, ?_⟩
        refine hK.out _ _ D7.out.k (fun hHeld => ?_)
        simp only [Act.put, List.setIfInBounds_toArray, List.set_cons_zero, List.set_cons_succ]
        clear hK K hd hg Q5 D5
        refine wpAnyH_ready (rs := [6]) (by kernel_rfl) (by simp) ?_
        refine AllReadyH.cons rfl (fun K hK => ?_) AllReadyH.nil
        refine step_call 39 rfl 26 #[.pointer (some ⟨g, 0, none⟩), .int .i64 256] (by kernel_rfl) (by kernel_rfl) (next_in g 256 _ Q7.out.q.d (by omega) (by omega)) ?_
        rintro e W8 ⟨c, rfl, ca, cb, hd, hg⟩
        have Q8 := Lib.hid (Q7.out.call hlt hd hg)
        have D8 := Lib.hid (D7.out.call hg)
        refine ⟨_, rfl, ?_⟩
        refine hK.out _ _ D8.out.k (fun hHeld => ?_)
        simp only [Act.put, List.setIfInBounds_toArray, List.set_cons_zero, List.set_cons_succ]
        clear hK K hd hg Q7 D7
        refine wpAnyH_ready (rs := [8]) (by kernel_rfl) (by simp) ?_
        refine AllReadyH.cons rfl (fun K hK => ?_) AllReadyH.nil
        refine step_store_part (n := 15) (m := 26) (by kernel_rfl) rfl (.tmp 40) (.tmp 33) rfl rfl rfl Q8.out.k rfl (by decide) rfl info_hd4 (by simp [Value.oneCell']) ?_
        intro W9 K9 G9
        have Q9 := Lib.hid (Q8.out.putH G9 K9 hlt)
        have D9 := Lib.hid (D8.out.k.keepRow G9 (fun e => nB (Option.some.inj e)))
        refine hK.out _ _ D9.out (fun hHeld => ?_)
        clear hK K K9 G9 Q8 D8
        refine take_lit (i := 9) (v := .pointer (some ⟨B, 22, none⟩)) 41 rfl rfl (by kernel_rfl) (by kernel_rfl) (by kernel_rfl) (fun _ _ _ h => h) (Or.inl ⟨by rfl, fun w hSw => by clear hSw; go_simp⟩) (by assumption) ?_
        simp only [Act.put, List.setIfInBounds_toArray, List.set_cons_zero, List.set_cons_succ]
        refine wpAnyH_ready (rs := [10]) (by kernel_rfl) (by simp) ?_
        refine AllReadyH.cons rfl (fun K hK => ?_) AllReadyH.nil
        refine step_store_part (n := 2) (m := 26) (by kernel_rfl) rfl (.tmp 41) (.tmp 37) rfl rfl rfl Q9.out.k rfl (by decide) rfl info_dy4 (by simp [Value.oneCell']) ?_
        intro W10 K9 G9
        have Q10 := Lib.hid (show SQ w W10 g B ⟨s.ctx, s.fmt, s.num, s.time, s.mark, s.id, s.udp, h, x, y, s.chk, s.pa, s.pn, s.pc, s.pz⟩ from Q9.out.putD G9 K9 hlt)
        have D10 := Lib.hid (D9.out.keepRow G9 (fun e => nB (Option.some.inj e)))
        refine hK.out _ _ D10.out (fun hHeld => ?_)
        clear hK K K9 G9 Q9 D9
        refine take_lit (i := 11) (v := .pointer (some ⟨B, 24, none⟩)) 42 rfl rfl (by kernel_rfl) (by kernel_rfl) (by kernel_rfl) (fun _ _ _ h => h) (Or.inl ⟨by rfl, fun w hSw => by clear hSw; go_simp⟩) (by assumption) ?_
        simp only [Act.put, List.setIfInBounds_toArray, List.set_cons_zero, List.set_cons_succ]
        refine wpAnyH_ready (rs := [12]) (by kernel_rfl) (by simp) ?_
        refine AllReadyH.cons rfl (fun K hK => ?_) AllReadyH.nil
        have c10 := cells_of Q10.out.k
        have g10 := frozen_of Q10.out.k
        refine step_any (by kernel_rfl) ?_
        go_simp
        have kk := blk_set Q10.out.k 24 (.int .i64 c)
        simp only [List.setIfInBounds_toArray, List.set_cons_succ, List.set_cons_zero] at kk
        have p11 := Lib.hid (Q10.out.put (s' := ⟨s.ctx, s.fmt, s.num, s.time, s.mark, s.id, s.udp, h, x, y, c, s.pa, s.pn, s.pc, s.pz⟩) (grown_self (World.grownBy.refl _ _) _ _) kk ⟨rfl, rfl, rfl, rfl⟩ hlt)
        have D11 := Lib.hid (D10.out.keepRow (grown_self (World.grownBy.refl W10 (some B)) 24 (.int .i64 c)) (fun e => nB (Option.some.inj e)))
        refine hK.out _ _ D11.out (fun hHeld => ?_)
        clear hK K kk c10 g10 D10 D11
        generalize W10.setCell ⟨B, 24, none⟩ (.int .i64 c) = W11 at p11 hHeld ⊢
        refine wpAnyH_done (by kernel_rfl) ?_ _
        refine NoPanic.normal ?_
        have c11 := cells_of p11.out.k
        have g11 := frozen_of p11.out.k
        go_upto_region 13 with fail
        have SV := small_big z2.out p11.out.p.n h x y c (.inr fe.out) HV.out (fun e => absurd (fe.out.symm.trans e) (by decide)) hdy ⟨ca, by omega⟩
        refine wp_region_lit ?_
        refine wpList_load_sm (s := ⟨s.ctx, s.fmt, s.num, s.time, s.mark, s.id, s.udp, h, x, y, c, s.pa, s.pn, s.pc, s.pz⟩) p11.out.k rfl _ rfl rfl ?_
        refine wpList_store_blk (n := 26) rfl rfl _ _ rfl rfl rfl p11.out.q.zr rfl rfl info_sm (by simp [Value.oneCell']) ?_
        intro W9 K9 G9
        simp only [Act.put, List.setIfInBounds_toArray, List.set_cons_zero, List.set_cons_succ]
        have e9 := Lib.hid (p11.out.fin G9 hlt)
        have L9 := Lib.hid (show Blk 28 W9 _ _ from K9)
        clear K9 G9
        go_wp2_with fail
        refine bodyPost_ret (results_sm1 Tryd.results18 _ _ _ _ rfl L9.out rfl) rfl ?_
        exact ⟨⟨s.ctx, s.fmt, s.num, s.time, s.mark, s.id, s.udp, h, x, y, c, s.pa, s.pn, s.pc, s.pz⟩, rfl, SV.1, SV.2, e9.out.1, e9.out.2.1, e9.out.2.2⟩
    · as_aux_lemma =>
        have f1 : (s.fmt == 1) = false := by rw [f]; rfl
        have f2 : (s.fmt == 2) = false := by rw [f]; rfl
        have f3 : (s.fmt == 3) = false := by rw [f]; rfl
        have f4 : (s.fmt == 4) = false := by rw [f]; rfl
        have f5 : (s.fmt == 5) = false := by rw [f]; rfl
        have f6 : (s.fmt == 6) = true := by rw [f]; rfl
        have g5 := frozen_of q5.out.k
        go_upto_region 7 with fail
        have kk := (blk_set q5.out.k 0 (.int .i64 (0)))
        simp only [List.setIfInBounds_toArray, List.set_cons_zero] at kk
        have p5 := Lib.hid (q5.out.put (s' := { s with ctx := 0 }) (grown_self (World.grownBy.refl _ _) _ _) kk ⟨rfl, rfl, rfl, rfl⟩ hlt)
        clear kk c5 g5 q5
        generalize W5.setCell ⟨B, 0, none⟩ (.int .i64 0) = W6 at p5 ⊢
        refine wp_region_lit ?_
        refine wpList_load_sm (s := { s with ctx := 0 }) p5.out.k rfl _ rfl rfl ?_
        refine wpList_store_blk (n := 26) rfl rfl _ _ rfl rfl rfl p5.out.q.zr rfl rfl info_sm (by simp [Value.oneCell']) ?_
        intro W9 K9 G9
        simp only [Act.put, List.setIfInBounds_toArray, List.set_cons_zero, List.set_cons_succ]
        have e9 := Lib.hid (p5.out.fin G9 hlt)
        have L9 := Lib.hid (show Blk 28 W9 _ _ from K9)
        clear K9 G9
        go_wp2_with fail
        refine bodyPost_ret (results_sm1 Tryd.results18 _ _ _ _ rfl L9.out rfl) rfl ?_
        exact ⟨{ s with ctx := 0 }, rfl, (small_raw z2.out f p5.out.p.n).1, (small_raw z2.out f p5.out.p.n).2, e9.out.1, e9.out.2.1, e9.out.2.2⟩
  case first =>
    have Q1 := Lib.hid Q0.out.drew
    refine wp_region_noPanic ?_
    refine wp_region_held_drew (S := fun _ => True) (by kernel_rfl) trivial (fun hHeld => ?_)
    generalize hW1 : W0.drew = W1 at Q1 ⊢
    clear hW1 Q0
    refine take_lit (i := 1) (v := .pointer (some ⟨g, 0, none⟩)) 7 rfl rfl (by kernel_rfl) (by kernel_rfl) (by kernel_rfl) (fun _ _ _ h => h) (Or.inl ⟨by rfl, fun w hSw => by go_simp⟩) (by trivial) ?_
    simp only [Act.put, List.setIfInBounds_toArray, List.set_cons_zero, List.set_cons_succ]
    refine take_lit (i := 5) (v := .pointer (some ⟨g, 0, none⟩)) 11 rfl rfl (by kernel_rfl) (by kernel_rfl) (by kernel_rfl) (fun _ _ _ h => h) (Or.inl ⟨by rfl, fun w hSw => by go_simp⟩) (by trivial) ?_
    simp only [Act.put, List.setIfInBounds_toArray, List.set_cons_zero, List.set_cons_succ]
    refine take_lit (i := 8) (v := .pointer (some ⟨g, 0, none⟩)) 14 rfl rfl (by kernel_rfl) (by kernel_rfl) (by kernel_rfl) (fun _ _ _ h => h) (Or.inl ⟨by rfl, fun w hSw => by go_simp⟩) (by trivial) ?_
    simp only [Act.put, List.setIfInBounds_toArray, List.set_cons_zero, List.set_cons_succ]
    refine wpAnyH_ready (rs := [0, 2, 11]) (by kernel_rfl) (by simp) ?_
    refine AllReadyH.cons rfl (fun K hK => ?_) (AllReadyH.cons rfl (fun K hK => ?_) (AllReadyH.cons rfl (fun K hK => ?_) (AllReadyH.nil)))
    · skip
      have Q2 := Lib.hid (Q1.out.alloc (.cells #[.int .i64 0, .int .i64 0, .int .i64 1, .int .i64 15] 3))
      have L2 := Lib.hid (OB.new (g := g) (W := W1) 3 #[.int .i64 0, .int .i64 0, .int .i64 1, .int .i64 15] Q1.out.d.lt)
      refine step_run2 6 rfl (.slice (some ⟨W1.heap.size, 0, none⟩) 4 4) (W1.alloc (.cells #[.int .i64 0, .int .i64 0, .int .i64 1, .int .i64 15] 3)) (by kernel_rfl) (by kernel_rfl) ?_
      refine hK.out _ _ trivial (fun hHeld => ?_)
      simp only [Act.put, List.setIfInBounds_toArray, List.set_cons_zero, List.set_cons_succ]
      clear hK K
      generalize hW2 : W1.alloc (.cells #[.int .i64 0, .int .i64 0, .int .i64 1, .int .i64 15] 3) = W2 at Q2 L2 ⊢
      clear hW2
      refine wpAnyH_ready (rs := [2, 11]) (by kernel_rfl) (by simp) ?_
      refine AllReadyH.cons rfl (fun K hK => ?_) (AllReadyH.cons rfl (fun K hK => ?_) (AllReadyH.nil))
      · skip
        refine step_call 8 rfl 26 #[.pointer (some ⟨g, 0, none⟩), .int .i64 4] (by kernel_rfl) (by kernel_rfl) (next_in g 4 _ Q2.out.d (by omega) (by omega)) ?_
        rintro e W3 ⟨x, rfl, x0, x1, hd, hg⟩
        obtain ⟨i, rfl⟩ := Int.eq_ofNat_of_zero_le x0
        have hi : i < 4 := by omega
        have hI : (i : Int) < 4 := by omega
        have L3 := Lib.hid (L2.out.call hg)
        have Q3 := Lib.hid (Q2.out.call hlt hd hg)
        clear hd hg
        refine ⟨_, rfl, ?_⟩
        refine hK.out _ _ trivial (fun hHeld => ?_)
        simp only [Act.put, List.setIfInBounds_toArray, List.set_cons_zero, List.set_cons_succ]
        clear hK K
        refine take_lit (i := 3) (v := .pointer (some ⟨W1.heap.size, i, none⟩)) 9 rfl rfl (by kernel_rfl) (by kernel_rfl) (by kernel_rfl) (fun _ _ _ h => h) (Or.inl ⟨by rfl, fun w hSw => by clear hSw; go_simp; try (intro h9; exact absurd (h9 (by omega)) (by omega))⟩) (by trivial) ?_
        simp only [Act.put, List.setIfInBounds_toArray, List.set_cons_zero, List.set_cons_succ]
        refine wpAnyH_ready (rs := [4, 6, 11]) (by kernel_rfl) (by simp) ?_
        refine AllReadyH.cons rfl (fun K hK => ?_) (AllReadyH.cons rfl (fun K hK => ?_) (AllReadyH.cons rfl (fun K hK => ?_) (AllReadyH.nil)))
        · have hc := (cells_of L3.out.k i).trans (ctxRow_at i hi)
          have hv := ctxRow_bd i
          generalize ctxRow.getD i 0 = v at hc hv
          refine step_run2 10 rfl (.int .i64 v) W3 (by kernel_rfl) (by go_simp) ?_
          refine hK.out _ _ trivial (fun hHeld => ?_)
          simp only [Act.put, List.setIfInBounds_toArray, List.set_cons_zero, List.set_cons_succ]
          clear hK K hc
          refine wpAnyH_ready (rs := [6, 11]) (by kernel_rfl) (by simp) ?_
          refine AllReadyH.cons rfl (fun K hK => ?_) (AllReadyH.cons rfl (fun K hK => ?_) (AllReadyH.nil))
          · skip
            refine step_call 12 rfl 26 #[.pointer (some ⟨g, 0, none⟩), .int .i64 6] (by kernel_rfl) (by kernel_rfl) (next_in g 6 _ Q3.out.d (by omega) (by omega)) ?_
            rintro e W5 ⟨q, rfl, q0, q1, hd, hg⟩
            have L5 := Lib.hid (L3.out.call hg)
            have Q5 := Lib.hid (Q3.out.call hlt hd hg)
            clear hd hg
            refine ⟨_, rfl, ?_⟩
            refine hK.out _ _ trivial (fun hHeld => ?_)
            simp only [Act.put, List.setIfInBounds_toArray, List.set_cons_zero, List.set_cons_succ]
            clear hK K
            refine take_lit (i := 7) (v := .int .i64 (1 + q)) 13 rfl rfl (by kernel_rfl) (by kernel_rfl) (by kernel_rfl) (fun _ _ _ h => h) (Or.inl ⟨by rfl, fun w hSw => by go_simp; try (simp [IntKind.wrap, IntKind.signed, IntKind.bits]; omega)⟩) (by trivial) ?_
            simp only [Act.put, List.setIfInBounds_toArray, List.set_cons_zero, List.set_cons_succ]
            refine wpAnyH_ready (rs := [9, 11]) (by kernel_rfl) (by simp) ?_
            refine AllReadyH.cons rfl (fun K hK => ?_) (AllReadyH.cons rfl (fun K hK => ?_) (AllReadyH.nil))
            · skip
              refine step_call 15 rfl 46 #[.pointer (some ⟨g, 0, none⟩), .int .i64 12] (by kernel_rfl) (by kernel_rfl) (bytes_in g 12 W5 Q5.out.d (by omega)) ?_
              rintro e W6 ⟨o, m, c, zs, rfl, hm, mk, ho, hd, hg⟩
              replace ho := Lib.hid ho
              have M6 := Lib.hid (mk.mono (B' := w.heap.size + 1) Q5.out.zr.lt)
              have L6 := Lib.hid (L5.out.call hg)
              have Q6 := Lib.hid (Q5.out.call hlt hd hg)
              clear hd hg mk
              refine ⟨_, rfl, ?_⟩
              refine hK.out _ _ trivial (fun hHeld => ?_)
              simp only [Act.put, List.setIfInBounds_toArray, List.set_cons_zero, List.set_cons_succ]
              clear hK K
              refine take_lit (i := 10) (v := sm0V v (1 + q) o m c) 16 rfl rfl (by kernel_rfl) (by kernel_rfl) (by kernel_rfl) (fun _ _ _ h => h) (Or.inl ⟨by rfl, fun w _ => by kernel_rfl⟩) (by trivial) ?_
              simp only [Act.put, List.setIfInBounds_toArray, List.set_cons_zero, List.set_cons_succ]
              refine wpAnyH_ready (rs := [11]) (by kernel_rfl) (by simp) ?_
              refine AllReadyH.cons rfl (fun K hK => ?_) (AllReadyH.nil)
              · skip
                have Q7 := Lib.hid (Q6.out.alloc (.cells z26 28))
                have L7 := Lib.hid (L6.out.alloc (.cells z26 28))
                have M7 := Lib.hid (M6.out.alloc (.cells z26 28))
                have Zs7 := Lib.hid (OB.new (g := g) (W := W6) 28 z26 Q6.out.d.lt)
                have hB : w.heap.size < W6.heap.size := Q6.out.zr.lt
                have nB : ∀ x, o = some x → x.block ≠ W6.heap.size := fun x e => by have := (M6.out.own_ge x.block (by rw [e]; rfl)).2; omega
                refine step_run2 3 rfl (.pointer (some ⟨W6.heap.size, 0, none⟩)) (W6.alloc (.cells z26 28)) (by kernel_rfl) (by kernel_rfl) ?_
                refine hK.out _ _ trivial (fun hHeld => ?_)
                simp only [Act.put, List.setIfInBounds_toArray, List.set_cons_zero, List.set_cons_succ]
                clear hK K
                generalize hW7 : W6.alloc (.cells z26 28) = W7 at Q7 L7 Zs7 M7 ⊢
                clear hW7
                refine wpAnyH_ready (rs := [12]) (by kernel_rfl) (by simp) ?_
                refine AllReadyH.cons rfl (ready_store (n := 26) (by kernel_rfl) rfl (.tmp 3) (.tmp 16) rfl rfl rfl Zs7.out.k rfl rfl info_sm (by simp [Value.oneCell']) ?_) AllReadyH.nil
                intro W8 K9 G9
                have Zk := Lib.hid (show Blk 28 W8 _ _ from K9)
                have Q8 := Lib.hid (Q7.out.row G9 Zs7.out.n hB)
                have M8 := Lib.hid (M7.out.keepRow G9 (own_ne nB))
                refine ⟨trivial, fun hHeld => ?_⟩
                clear K9 G9
                refine wpAnyH_done (by kernel_rfl) ?_ _
                refine NoPanic.normal ?_
                go_wp2_with fail
                go_meet
                exact ⟨_, _, ⟨v, 1 + q, 0, 0, 0, 0, 0, ⟨0, 0, 0, 0, 0, 0, 0, 0, 0, 0, 0, 0, 0, 0, 0⟩, 0, 0, 0, o, m, c, zs⟩, rfl, rfl, ⟨Q8.out, Zk.out, ⟨M8.out, ho.out, hm, nB⟩, hB⟩, ⟨hv, by dsimp only; omega, rfl, rfl, rfl, rfl, rfl, rfl, rfl, rfl, rfl⟩⟩
            · skip
              have Q6 := Lib.hid (Q5.out.alloc (.cells z26 28))
              have L6 := Lib.hid (L5.out.alloc (.cells z26 28))
              have Zs6 := Lib.hid (OB.new (g := g) (W := W5) 28 z26 Q5.out.d.lt)
              have hB : w.heap.size < W5.heap.size := Q5.out.zr.lt
              refine step_run2 3 rfl (.pointer (some ⟨W5.heap.size, 0, none⟩)) (W5.alloc (.cells z26 28)) (by kernel_rfl) (by kernel_rfl) ?_
              refine hK.out _ _ trivial (fun hHeld => ?_)
              simp only [Act.put, List.setIfInBounds_toArray, List.set_cons_zero, List.set_cons_succ]
              clear hK K
              generalize hW6 : W5.alloc (.cells z26 28) = W6 at Q6 L6 Zs6 ⊢
              clear hW6
              refine wpAnyH_ready (rs := [9]) (by kernel_rfl) (by simp) ?_
              refine AllReadyH.cons rfl (fun K hK => ?_) (AllReadyH.nil)
              · skip
                refine step_call 15 rfl 46 #[.pointer (some ⟨g, 0, none⟩), .int .i64 12] (by kernel_rfl) (by kernel_rfl) (bytes_in g 12 W6 Q6.out.d (by omega)) ?_
                rintro e W7 ⟨o, m, c, zs, rfl, hm, mk, ho, hd, hg⟩
                replace ho := Lib.hid ho
                have nB : ∀ x, o = some x → x.block ≠ W5.heap.size := fun x e => by have h1 := (mk.own_ge x.block (by rw [e]; rfl)).1; have h2 := Zs6.out.k.lt; omega
                have M7 := Lib.hid (mk.mono (B' := w.heap.size + 1) Q6.out.zr.lt)
                have L7 := Lib.hid (L6.out.call hg)
                have Zs7 := Lib.hid (Zs6.out.call hg)
                have Q7 := Lib.hid (Q6.out.call hlt hd hg)
                clear hd hg mk
                refine ⟨_, rfl, ?_⟩
                refine hK.out _ _ trivial (fun hHeld => ?_)
                simp only [Act.put, List.setIfInBounds_toArray, List.set_cons_zero, List.set_cons_succ]
                clear hK K
                refine take_lit (i := 10) (v := sm0V v (1 + q) o m c) 16 rfl rfl (by kernel_rfl) (by kernel_rfl) (by kernel_rfl) (fun _ _ _ h => h) (Or.inl ⟨by rfl, fun w _ => by kernel_rfl⟩) (by trivial) ?_
                simp only [Act.put, List.setIfInBounds_toArray, List.set_cons_zero, List.set_cons_succ]
                refine wpAnyH_ready (rs := [12]) (by kernel_rfl) (by simp) ?_
                refine AllReadyH.cons rfl (ready_store (n := 26) (by kernel_rfl) rfl (.tmp 3) (.tmp 16) rfl rfl rfl Zs7.out.k rfl rfl info_sm (by simp [Value.oneCell']) ?_) AllReadyH.nil
                intro W8 K9 G9
                have Zk := Lib.hid (show Blk 28 W8 _ _ from K9)
                have Q8 := Lib.hid (Q7.out.row G9 Zs7.out.n hB)
                have M8 := Lib.hid (M7.out.keepRow G9 (own_ne nB))
                refine ⟨trivial, fun hHeld => ?_⟩
                clear K9 G9
                refine wpAnyH_done (by kernel_rfl) ?_ _
                refine NoPanic.normal ?_
                go_wp2_with fail
                go_meet
                exact ⟨_, _, ⟨v, 1 + q, 0, 0, 0, 0, 0, ⟨0, 0, 0, 0, 0, 0, 0, 0, 0, 0, 0, 0, 0, 0, 0⟩, 0, 0, 0, o, m, c, zs⟩, rfl, rfl, ⟨Q8.out, Zk.out, ⟨M8.out, ho.out, hm, nB⟩, hB⟩, ⟨hv, by dsimp only; omega, rfl, rfl, rfl, rfl, rfl, rfl, rfl, rfl, rfl⟩⟩
          · skip
            have Q5 := Lib.hid (Q3.out.alloc (.cells z26 28))
            have L5 := Lib.hid (L3.out.alloc (.cells z26 28))
            have Zs5 := Lib.hid (OB.new (g := g) (W := W3) 28 z26 Q3.out.d.lt)
            have hB : w.heap.size < W3.heap.size := Q3.out.zr.lt
            refine step_run2 3 rfl (.pointer (some ⟨W3.heap.size, 0, none⟩)) (W3.alloc (.cells z26 28)) (by kernel_rfl) (by kernel_rfl) ?_
            refine hK.out _ _ trivial (fun hHeld => ?_)
            simp only [Act.put, List.setIfInBounds_toArray, List.set_cons_zero, List.set_cons_succ]
            clear hK K
            generalize hW5 : W3.alloc (.cells z26 28) = W5 at Q5 L5 Zs5 ⊢
            clear hW5
            refine wpAnyH_ready (rs := [6]) (by kernel_rfl) (by simp) ?_
            refine AllReadyH.cons rfl (fun K hK => ?_) (AllReadyH.nil)
            · skip
              refine step_call 12 rfl 26 #[.pointer (some ⟨g, 0, none⟩), .int .i64 6] (by kernel_rfl) (by kernel_rfl) (next_in g 6 _ Q5.out.d (by omega) (by omega)) ?_
              rintro e W6 ⟨q, rfl, q0, q1, hd, hg⟩
              have L6 := Lib.hid (L5.out.call hg)
              have Zs6 := Lib.hid (Zs5.out.call hg)
              have Q6 := Lib.hid (Q5.out.call hlt hd hg)
              clear hd hg
              refine ⟨_, rfl, ?_⟩
              refine hK.out _ _ trivial (fun hHeld => ?_)
              simp only [Act.put, List.setIfInBounds_toArray, List.set_cons_zero, List.set_cons_succ]
              clear hK K
              refine take_lit (i := 7) (v := .int .i64 (1 + q)) 13 rfl rfl (by kernel_rfl) (by kernel_rfl) (by kernel_rfl) (fun _ _ _ h => h) (Or.inl ⟨by rfl, fun w hSw => by go_simp; try (simp [IntKind.wrap, IntKind.signed, IntKind.bits]; omega)⟩) (by trivial) ?_
              simp only [Act.put, List.setIfInBounds_toArray, List.set_cons_zero, List.set_cons_succ]
              refine wpAnyH_ready (rs := [9]) (by kernel_rfl) (by simp) ?_
              refine AllReadyH.cons rfl (fun K hK => ?_) (AllReadyH.nil)
              · skip
                refine step_call 15 rfl 46 #[.pointer (some ⟨g, 0, none⟩), .int .i64 12] (by kernel_rfl) (by kernel_rfl) (bytes_in g 12 W6 Q6.out.d (by omega)) ?_
                rintro e W7 ⟨o, m, c, zs, rfl, hm, mk, ho, hd, hg⟩
                replace ho := Lib.hid ho
                have nB : ∀ x, o = some x → x.block ≠ W3.heap.size := fun x e => by have h1 := (mk.own_ge x.block (by rw [e]; rfl)).1; have h2 := Zs6.out.k.lt; omega
                have M7 := Lib.hid (mk.mono (B' := w.heap.size + 1) Q6.out.zr.lt)
                have L7 := Lib.hid (L6.out.call hg)
                have Zs7 := Lib.hid (Zs6.out.call hg)
                have Q7 := Lib.hid (Q6.out.call hlt hd hg)
                clear hd hg mk
                refine ⟨_, rfl, ?_⟩
                refine hK.out _ _ trivial (fun hHeld => ?_)
                simp only [Act.put, List.setIfInBounds_toArray, List.set_cons_zero, List.set_cons_succ]
                clear hK K
                refine take_lit (i := 10) (v := sm0V v (1 + q) o m c) 16 rfl rfl (by kernel_rfl) (by kernel_rfl) (by kernel_rfl) (fun _ _ _ h => h) (Or.inl ⟨by rfl, fun w _ => by kernel_rfl⟩) (by trivial) ?_
                simp only [Act.put, List.setIfInBounds_toArray, List.set_cons_zero, List.set_cons_succ]
                refine wpAnyH_ready (rs := [12]) (by kernel_rfl) (by simp) ?_
                refine AllReadyH.cons rfl (ready_store (n := 26) (by kernel_rfl) rfl (.tmp 3) (.tmp 16) rfl rfl rfl Zs7.out.k rfl rfl info_sm (by simp [Value.oneCell']) ?_) AllReadyH.nil
                intro W8 K9 G9
                have Zk := Lib.hid (show Blk 28 W8 _ _ from K9)
                have Q8 := Lib.hid (Q7.out.row G9 Zs7.out.n hB)
                have M8 := Lib.hid (M7.out.keepRow G9 (own_ne nB))
                refine ⟨trivial, fun hHeld => ?_⟩
                clear K9 G9
                refine wpAnyH_done (by kernel_rfl) ?_ _
                refine NoPanic.normal ?_
                go_wp2_with fail
                go_meet
                exact ⟨_, _, ⟨v, 1 + q, 0, 0, 0, 0, 0, ⟨0, 0, 0, 0, 0, 0, 0, 0, 0, 0, 0, 0, 0, 0, 0⟩, 0, 0, 0, o, m, c, zs⟩, rfl, rfl, ⟨Q8.out, Zk.out, ⟨M8.out, ho.out, hm, nB⟩, hB⟩, ⟨hv, by dsimp only; omega, rfl, rfl, rfl, rfl, rfl, rfl, rfl, rfl, rfl⟩⟩
        · skip
          refine step_call 12 rfl 26 #[.pointer (some ⟨g, 0, none⟩), .int .i64 6] (by kernel_rfl) (by kernel_rfl) (next_in g 6 _ Q3.out.d (by omega) (by omega)) ?_
          rintro e W4 ⟨q, rfl, q0, q1, hd, hg⟩
          have L4 := Lib.hid (L3.out.call hg)
          have Q4 := Lib.hid (Q3.out.call hlt hd hg)
          clear hd hg
          refine ⟨_, rfl, ?_⟩
          refine hK.out _ _ trivial (fun hHeld => ?_)
          simp only [Act.put, List.setIfInBounds_toArray, List.set_cons_zero, List.set_cons_succ]
          clear hK K
          refine take_lit (i := 7) (v := .int .i64 (1 + q)) 13 rfl rfl (by kernel_rfl) (by kernel_rfl) (by kernel_rfl) (fun _ _ _ h => h) (Or.inl ⟨by rfl, fun w hSw => by go_simp; try (simp [IntKind.wrap, IntKind.signed, IntKind.bits]; omega)⟩) (by trivial) ?_
          simp only [Act.put, List.setIfInBounds_toArray, List.set_cons_zero, List.set_cons_succ]
          refine wpAnyH_ready (rs := [4, 9, 11]) (by kernel_rfl) (by simp) ?_
          refine AllReadyH.cons rfl (fun K hK => ?_) (AllReadyH.cons rfl (fun K hK => ?_) (AllReadyH.cons rfl (fun K hK => ?_) (AllReadyH.nil)))
          · have hc := (cells_of L4.out.k i).trans (ctxRow_at i hi)
            have hv := ctxRow_bd i
            generalize ctxRow.getD i 0 = v at hc hv
            refine step_run2 10 rfl (.int .i64 v) W4 (by kernel_rfl) (by go_simp) ?_
            refine hK.out _ _ trivial (fun hHeld => ?_)
            simp only [Act.put, List.setIfInBounds_toArray, List.set_cons_zero, List.set_cons_succ]
            clear hK K hc
            refine wpAnyH_ready (rs := [9, 11]) (by kernel_rfl) (by simp) ?_
            refine AllReadyH.cons rfl (fun K hK => ?_) (AllReadyH.cons rfl (fun K hK => ?_) (AllReadyH.nil))
            · skip
              refine step_call 15 rfl 46 #[.pointer (some ⟨g, 0, none⟩), .int .i64 12] (by kernel_rfl) (by kernel_rfl) (bytes_in g 12 W4 Q4.out.d (by omega)) ?_
              rintro e W6 ⟨o, m, c, zs, rfl, hm, mk, ho, hd, hg⟩
              replace ho := Lib.hid ho
              have M6 := Lib.hid (mk.mono (B' := w.heap.size + 1) Q4.out.zr.lt)
              have L6 := Lib.hid (L4.out.call hg)
              have Q6 := Lib.hid (Q4.out.call hlt hd hg)
              clear hd hg mk
              refine ⟨_, rfl, ?_⟩
              refine hK.out _ _ trivial (fun hHeld => ?_)
              simp only [Act.put, List.setIfInBounds_toArray, List.set_cons_zero, List.set_cons_succ]
              clear hK K
              refine take_lit (i := 10) (v := sm0V v (1 + q) o m c) 16 rfl rfl (by kernel_rfl) (by kernel_rfl) (by kernel_rfl) (fun _ _ _ h => h) (Or.inl ⟨by rfl, fun w _ => by kernel_rfl⟩) (by trivial) ?_
              simp only [Act.put, List.setIfInBounds_toArray, List.set_cons_zero, List.set_cons_succ]
              refine wpAnyH_ready (rs := [11]) (by kernel_rfl) (by simp) ?_
              refine AllReadyH.cons rfl (fun K hK => ?_) (AllReadyH.nil)
              · skip
                have Q7 := Lib.hid (Q6.out.alloc (.cells z26 28))
                have L7 := Lib.hid (L6.out.alloc (.cells z26 28))
                have M7 := Lib.hid (M6.out.alloc (.cells z26 28))
                have Zs7 := Lib.hid (OB.new (g := g) (W := W6) 28 z26 Q6.out.d.lt)
                have hB : w.heap.size < W6.heap.size := Q6.out.zr.lt
                have nB : ∀ x, o = some x → x.block ≠ W6.heap.size := fun x e => by have := (M6.out.own_ge x.block (by rw [e]; rfl)).2; omega
                refine step_run2 3 rfl (.pointer (some ⟨W6.heap.size, 0, none⟩)) (W6.alloc (.cells z26 28)) (by kernel_rfl) (by kernel_rfl) ?_
                refine hK.out _ _ trivial (fun hHeld => ?_)
                simp only [Act.put, List.setIfInBounds_toArray, List.set_cons_zero, List.set_cons_succ]
                clear hK K
                generalize hW7 : W6.alloc (.cells z26 28) = W7 at Q7 L7 Zs7 M7 ⊢
                clear hW7
                refine wpAnyH_ready (rs := [12]) (by kernel_rfl) (by simp) ?_
                refine AllReadyH.cons rfl (ready_store (n := 26) (by kernel_rfl) rfl (.tmp 3) (.tmp 16) rfl rfl rfl Zs7.out.k rfl rfl info_sm (by simp [Value.oneCell']) ?_) AllReadyH.nil
                intro W8 K9 G9
                have Zk := Lib.hid (show Blk 28 W8 _ _ from K9)
                have Q8 := Lib.hid (Q7.out.row G9 Zs7.out.n hB)
                have M8 := Lib.hid (M7.out.keepRow G9 (own_ne nB))
                refine ⟨trivial, fun hHeld => ?_⟩
                clear K9 G9
                refine wpAnyH_done (by kernel_rfl) ?_ _
                refine NoPanic.normal ?_
                go_wp2_with fail
                go_meet
                exact ⟨_, _, ⟨v, 1 + q, 0, 0, 0, 0, 0, ⟨0, 0, 0, 0, 0, 0, 0, 0, 0, 0, 0, 0, 0, 0, 0⟩, 0, 0, 0, o, m, c, zs⟩, rfl, rfl, ⟨Q8.out, Zk.out, ⟨M8.out, ho.out, hm, nB⟩, hB⟩, ⟨hv, by dsimp only; omega, rfl, rfl, rfl, rfl, rfl, rfl, rfl, rfl, rfl⟩⟩
            · skip
              have Q6 := Lib.hid (Q4.out.alloc (.cells z26 28))
              have L6 := Lib.hid (L4.out.alloc (.cells z26 28))
              have Zs6 := Lib.hid (OB.new (g := g) (W := W4) 28 z26 Q4.out.d.lt)
              have hB : w.heap.size < W4.heap.size := Q4.out.zr.lt
              refine step_run2 3 rfl (.pointer (some ⟨W4.heap.size, 0, none⟩)) (W4.alloc (.cells z26 28)) (by kernel_rfl) (by kernel_rfl) ?_
              refine hK.out _ _ trivial (fun hHeld => ?_)
              simp only [Act.put, List.setIfInBounds_toArray, List.set_cons_zero, List.set_cons_succ]
              clear hK K
              generalize hW6 : W4.alloc (.cells z26 28) = W6 at Q6 L6 Zs6 ⊢
              clear hW6
              refine wpAnyH_ready (rs := [9]) (by kernel_rfl) (by simp) ?_
              refine AllReadyH.cons rfl (fun K hK => ?_) (AllReadyH.nil)
              · skip
                refine step_call 15 rfl 46 #[.pointer (some ⟨g, 0, none⟩), .int .i64 12] (by kernel_rfl) (by kernel_rfl) (bytes_in g 12 W6 Q6.out.d (by omega)) ?_
                rintro e W7 ⟨o, m, c, zs, rfl, hm, mk, ho, hd, hg⟩
                replace ho := Lib.hid ho
                have nB : ∀ x, o = some x → x.block ≠ W4.heap.size := fun x e => by have h1 := (mk.own_ge x.block (by rw [e]; rfl)).1; have h2 := Zs6.out.k.lt; omega
                have M7 := Lib.hid (mk.mono (B' := w.heap.size + 1) Q6.out.zr.lt)
                have L7 := Lib.hid (L6.out.call hg)
                have Zs7 := Lib.hid (Zs6.out.call hg)
                have Q7 := Lib.hid (Q6.out.call hlt hd hg)
                clear hd hg mk
                refine ⟨_, rfl, ?_⟩
                refine hK.out _ _ trivial (fun hHeld => ?_)
                simp only [Act.put, List.setIfInBounds_toArray, List.set_cons_zero, List.set_cons_succ]
                clear hK K
                refine take_lit (i := 10) (v := sm0V v (1 + q) o m c) 16 rfl rfl (by kernel_rfl) (by kernel_rfl) (by kernel_rfl) (fun _ _ _ h => h) (Or.inl ⟨by rfl, fun w _ => by kernel_rfl⟩) (by trivial) ?_
                simp only [Act.put, List.setIfInBounds_toArray, List.set_cons_zero, List.set_cons_succ]
                refine wpAnyH_ready (rs := [12]) (by kernel_rfl) (by simp) ?_
                refine AllReadyH.cons rfl (ready_store (n := 26) (by kernel_rfl) rfl (.tmp 3) (.tmp 16) rfl rfl rfl Zs7.out.k rfl rfl info_sm (by simp [Value.oneCell']) ?_) AllReadyH.nil
                intro W8 K9 G9
                have Zk := Lib.hid (show Blk 28 W8 _ _ from K9)
                have Q8 := Lib.hid (Q7.out.row G9 Zs7.out.n hB)
                have M8 := Lib.hid (M7.out.keepRow G9 (own_ne nB))
                refine ⟨trivial, fun hHeld => ?_⟩
                clear K9 G9
                refine wpAnyH_done (by kernel_rfl) ?_ _
                refine NoPanic.normal ?_
                go_wp2_with fail
                go_meet
                exact ⟨_, _, ⟨v, 1 + q, 0, 0, 0, 0, 0, ⟨0, 0, 0, 0, 0, 0, 0, 0, 0, 0, 0, 0, 0, 0, 0⟩, 0, 0, 0, o, m, c, zs⟩, rfl, rfl, ⟨Q8.out, Zk.out, ⟨M8.out, ho.out, hm, nB⟩, hB⟩, ⟨hv, by dsimp only; omega, rfl, rfl, rfl, rfl, rfl, rfl, rfl, rfl, rfl⟩⟩
          · skip
            refine step_call 15 rfl 46 #[.pointer (some ⟨g, 0, none⟩), .int .i64 12] (by kernel_rfl) (by kernel_rfl) (bytes_in g 12 W4 Q4.out.d (by omega)) ?_
            rintro e W5 ⟨o, m, c, zs, rfl, hm, mk, ho, hd, hg⟩
            replace ho := Lib.hid ho
            have M5 := Lib.hid (mk.mono (B' := w.heap.size + 1) Q4.out.zr.lt)
            have L5 := Lib.hid (L4.out.call hg)
            have Q5 := Lib.hid (Q4.out.call hlt hd hg)
            clear hd hg mk
            refine ⟨_, rfl, ?_⟩
            refine hK.out _ _ trivial (fun hHeld => ?_)
            simp only [Act.put, List.setIfInBounds_toArray, List.set_cons_zero, List.set_cons_succ]
            clear hK K
            refine wpAnyH_ready (rs := [4, 11]) (by kernel_rfl) (by simp) ?_
            refine AllReadyH.cons rfl (fun K hK => ?_) (AllReadyH.cons rfl (fun K hK => ?_) (AllReadyH.nil))
            · have hc := (cells_of L5.out.k i).trans (ctxRow_at i hi)
              have hv := ctxRow_bd i
              generalize ctxRow.getD i 0 = v at hc hv
              refine step_run2 10 rfl (.int .i64 v) W5 (by kernel_rfl) (by go_simp) ?_
              refine hK.out _ _ trivial (fun hHeld => ?_)
              simp only [Act.put, List.setIfInBounds_toArray, List.set_cons_zero, List.set_cons_succ]
              clear hK K hc
              refine take_lit (i := 10) (v := sm0V v (1 + q) o m c) 16 rfl rfl (by kernel_rfl) (by kernel_rfl) (by kernel_rfl) (fun _ _ _ h => h) (Or.inl ⟨by rfl, fun w _ => by kernel_rfl⟩) (by trivial) ?_
              simp only [Act.put, List.setIfInBounds_toArray, List.set_cons_zero, List.set_cons_succ]
              refine wpAnyH_ready (rs := [11]) (by kernel_rfl) (by simp) ?_
              refine AllReadyH.cons rfl (fun K hK => ?_) (AllReadyH.nil)
              · skip
                have Q7 := Lib.hid (Q5.out.alloc (.cells z26 28))
                have L7 := Lib.hid (L5.out.alloc (.cells z26 28))
                have M7 := Lib.hid (M5.out.alloc (.cells z26 28))
                have Zs7 := Lib.hid (OB.new (g := g) (W := W5) 28 z26 Q5.out.d.lt)
                have hB : w.heap.size < W5.heap.size := Q5.out.zr.lt
                have nB : ∀ x, o = some x → x.block ≠ W5.heap.size := fun x e => by have := (M5.out.own_ge x.block (by rw [e]; rfl)).2; omega
                refine step_run2 3 rfl (.pointer (some ⟨W5.heap.size, 0, none⟩)) (W5.alloc (.cells z26 28)) (by kernel_rfl) (by kernel_rfl) ?_
                refine hK.out _ _ trivial (fun hHeld => ?_)
                simp only [Act.put, List.setIfInBounds_toArray, List.set_cons_zero, List.set_cons_succ]
                clear hK K
                generalize hW7 : W5.alloc (.cells z26 28) = W7 at Q7 L7 Zs7 M7 ⊢
                clear hW7
                refine wpAnyH_ready (rs := [12]) (by kernel_rfl) (by simp) ?_
                refine AllReadyH.cons rfl (ready_store (n := 26) (by kernel_rfl) rfl (.tmp 3) (.tmp 16) rfl rfl rfl Zs7.out.k rfl rfl info_sm (by simp [Value.oneCell']) ?_) AllReadyH.nil
                intro W8 K9 G9
                have Zk := Lib.hid (show Blk 28 W8 _ _ from K9)
                have Q8 := Lib.hid (Q7.out.row G9 Zs7.out.n hB)
                have M8 := Lib.hid (M7.out.keepRow G9 (own_ne nB))
                refine ⟨trivial, fun hHeld => ?_⟩
                clear K9 G9
                refine wpAnyH_done (by kernel_rfl) ?_ _
                refine NoPanic.normal ?_
                go_wp2_with fail
                go_meet
                exact ⟨_, _, ⟨v, 1 + q, 0, 0, 0, 0, 0, ⟨0, 0, 0, 0, 0, 0, 0, 0, 0, 0, 0, 0, 0, 0, 0⟩, 0, 0, 0, o, m, c, zs⟩, rfl, rfl, ⟨Q8.out, Zk.out, ⟨M8.out, ho.out, hm, nB⟩, hB⟩, ⟨hv, by dsimp only; omega, rfl, rfl, rfl, rfl, rfl, rfl, rfl, rfl, rfl⟩⟩
            · skip
              have Q6 := Lib.hid (Q5.out.alloc (.cells z26 28))
              have L6 := Lib.hid (L5.out.alloc (.cells z26 28))
              have M6 := Lib.hid (M5.out.alloc (.cells z26 28))
              have Zs6 := Lib.hid (OB.new (g := g) (W := W5) 28 z26 Q5.out.d.lt)
              have hB : w.heap.size < W5.heap.size := Q5.out.zr.lt
              have nB : ∀ x, o = some x → x.block ≠ W5.heap.size := fun x e => by have := (M5.out.own_ge x.block (by rw [e]; rfl)).2; omega
              refine step_run2 3 rfl (.pointer (some ⟨W5.heap.size, 0, none⟩)) (W5.alloc (.cells z26 28)) (by kernel_rfl) (by kernel_rfl) ?_
              refine hK.out _ _ trivial (fun hHeld => ?_)
              simp only [Act.put, List.setIfInBounds_toArray, List.set_cons_zero, List.set_cons_succ]
              clear hK K
              generalize hW6 : W5.alloc (.cells z26 28) = W6 at Q6 L6 Zs6 M6 ⊢
              clear hW6
              refine wpAnyH_ready (rs := [4]) (by kernel_rfl) (by simp) ?_
              refine AllReadyH.cons rfl (fun K hK => ?_) (AllReadyH.nil)
              · have hc := (cells_of L6.out.k i).trans (ctxRow_at i hi)
                have hv := ctxRow_bd i
                generalize ctxRow.getD i 0 = v at hc hv
                refine step_run2 10 rfl (.int .i64 v) W6 (by kernel_rfl) (by go_simp) ?_
                refine hK.out _ _ trivial (fun hHeld => ?_)
                simp only [Act.put, List.setIfInBounds_toArray, List.set_cons_zero, List.set_cons_succ]
                clear hK K hc
                refine take_lit (i := 10) (v := sm0V v (1 + q) o m c) 16 rfl rfl (by kernel_rfl) (by kernel_rfl) (by kernel_rfl) (fun _ _ _ h => h) (Or.inl ⟨by rfl, fun w _ => by kernel_rfl⟩) (by trivial) ?_
                simp only [Act.put, List.setIfInBounds_toArray, List.set_cons_zero, List.set_cons_succ]
                refine wpAnyH_ready (rs := [12]) (by kernel_rfl) (by simp) ?_
                refine AllReadyH.cons rfl (ready_store (n := 26) (by kernel_rfl) rfl (.tmp 3) (.tmp 16) rfl rfl rfl Zs6.out.k rfl rfl info_sm (by simp [Value.oneCell']) ?_) AllReadyH.nil
                intro W8 K9 G9
                have Zk := Lib.hid (show Blk 28 W8 _ _ from K9)
                have Q8 := Lib.hid (Q6.out.row G9 Zs6.out.n hB)
                have M8 := Lib.hid (M6.out.keepRow G9 (own_ne nB))
                refine ⟨trivial, fun hHeld => ?_⟩
                clear K9 G9
                refine wpAnyH_done (by kernel_rfl) ?_ _
                refine NoPanic.normal ?_
                go_wp2_with fail
                go_meet
                exact ⟨_, _, ⟨v, 1 + q, 0, 0, 0, 0, 0, ⟨0, 0, 0, 0, 0, 0, 0, 0, 0, 0, 0, 0, 0, 0, 0⟩, 0, 0, 0, o, m, c, zs⟩, rfl, rfl, ⟨Q8.out, Zk.out, ⟨M8.out, ho.out, hm, nB⟩, hB⟩, ⟨hv, by dsimp only; omega, rfl, rfl, rfl, rfl, rfl, rfl, rfl, rfl, rfl⟩⟩
          · skip
            have Q5 := Lib.hid (Q4.out.alloc (.cells z26 28))
            have L5 := Lib.hid (L4.out.alloc (.cells z26 28))
            have Zs5 := Lib.hid (OB.new (g := g) (W := W4) 28 z26 Q4.out.d.lt)
            have hB : w.heap.size < W4.heap.size := Q4.out.zr.lt
            refine step_run2 3 rfl (.pointer (some ⟨W4.heap.size, 0, none⟩)) (W4.alloc (.cells z26 28)) (by kernel_rfl) (by kernel_rfl) ?_
            refine hK.out _ _ trivial (fun hHeld => ?_)
            simp only [Act.put, List.setIfInBounds_toArray, List.set_cons_zero, List.set_cons_succ]
            clear hK K
            generalize hW5 : W4.alloc (.cells z26 28) = W5 at Q5 L5 Zs5 ⊢
            clear hW5
            refine wpAnyH_ready (rs := [4, 9]) (by kernel_rfl) (by simp) ?_
            refine AllReadyH.cons rfl (fun K hK => ?_) (AllReadyH.cons rfl (fun K hK => ?_) (AllReadyH.nil))
            · have hc := (cells_of L5.out.k i).trans (ctxRow_at i hi)
              have hv := ctxRow_bd i
              generalize ctxRow.getD i 0 = v at hc hv
              refine step_run2 10 rfl (.int .i64 v) W5 (by kernel_rfl) (by go_simp) ?_
              refine hK.out _ _ trivial (fun hHeld => ?_)
              simp only [Act.put, List.setIfInBounds_toArray, List.set_cons_zero, List.set_cons_succ]
              clear hK K hc
              refine wpAnyH_ready (rs := [9]) (by kernel_rfl) (by simp) ?_
              refine AllReadyH.cons rfl (fun K hK => ?_) (AllReadyH.nil)
              · skip
                refine step_call 15 rfl 46 #[.pointer (some ⟨g, 0, none⟩), .int .i64 12] (by kernel_rfl) (by kernel_rfl) (bytes_in g 12 W5 Q5.out.d (by omega)) ?_
                rintro e W7 ⟨o, m, c, zs, rfl, hm, mk, ho, hd, hg⟩
                replace ho := Lib.hid ho
                have nB : ∀ x, o = some x → x.block ≠ W4.heap.size := fun x e => by have h1 := (mk.own_ge x.block (by rw [e]; rfl)).1; have h2 := Zs5.out.k.lt; omega
                have M7 := Lib.hid (mk.mono (B' := w.heap.size + 1) Q5.out.zr.lt)
                have L7 := Lib.hid (L5.out.call hg)
                have Zs7 := Lib.hid (Zs5.out.call hg)
                have Q7 := Lib.hid (Q5.out.call hlt hd hg)
                clear hd hg mk
                refine ⟨_, rfl, ?_⟩
                refine hK.out _ _ trivial (fun hHeld => ?_)
                simp only [Act.put, List.setIfInBounds_toArray, List.set_cons_zero, List.set_cons_succ]
                clear hK K
                refine take_lit (i := 10) (v := sm0V v (1 + q) o m c) 16 rfl rfl (by kernel_rfl) (by kernel_rfl) (by kernel_rfl) (fun _ _ _ h => h) (Or.inl ⟨by rfl, fun w _ => by kernel_rfl⟩) (by trivial) ?_
                simp only [Act.put, List.setIfInBounds_toArray, List.set_cons_zero, List.set_cons_succ]
                refine wpAnyH_ready (rs := [12]) (by kernel_rfl) (by simp) ?_
                refine AllReadyH.cons rfl (ready_store (n := 26) (by kernel_rfl) rfl (.tmp 3) (.tmp 16) rfl rfl rfl Zs7.out.k rfl rfl info_sm (by simp [Value.oneCell']) ?_) AllReadyH.nil
                intro W8 K9 G9
                have Zk := Lib.hid (show Blk 28 W8 _ _ from K9)
                have Q8 := Lib.hid (Q7.out.row G9 Zs7.out.n hB)
                have M8 := Lib.hid (M7.out.keepRow G9 (own_ne nB))
                refine ⟨trivial, fun hHeld => ?_⟩
                clear K9 G9
                refine wpAnyH_done (by kernel_rfl) ?_ _
                refine NoPanic.normal ?_
                go_wp2_with fail
                go_meet
                exact ⟨_, _, ⟨v, 1 + q, 0, 0, 0, 0, 0, ⟨0, 0, 0, 0, 0, 0, 0, 0, 0, 0, 0, 0, 0, 0, 0⟩, 0, 0, 0, o, m, c, zs⟩, rfl, rfl, ⟨Q8.out, Zk.out, ⟨M8.out, ho.out, hm, nB⟩, hB⟩, ⟨hv, by dsimp only; omega, rfl, rfl, rfl, rfl, rfl, rfl, rfl, rfl, rfl⟩⟩
            · skip
              refine step_call 15 rfl 46 #[.pointer (some ⟨g, 0, none⟩), .int .i64 12] (by kernel_rfl) (by kernel_rfl) (bytes_in g 12 W5 Q5.out.d (by omega)) ?_
              rintro e W6 ⟨o, m, c, zs, rfl, hm, mk, ho, hd, hg⟩
              replace ho := Lib.hid ho
              have nB : ∀ x, o = some x → x.block ≠ W4.heap.size := fun x e => by have h1 := (mk.own_ge x.block (by rw [e]; rfl)).1; have h2 := Zs5.out.k.lt; omega
              have M6 := Lib.hid (mk.mono (B' := w.heap.size + 1) Q5.out.zr.lt)
              have L6 := Lib.hid (L5.out.call hg)
              have Zs6 := Lib.hid (Zs5.out.call hg)
              have Q6 := Lib.hid (Q5.out.call hlt hd hg)
              clear hd hg mk
              refine ⟨_, rfl, ?_⟩
              refine hK.out _ _ trivial (fun hHeld => ?_)
              simp only [Act.put, List.setIfInBounds_toArray, List.set_cons_zero, List.set_cons_succ]
              clear hK K
              refine wpAnyH_ready (rs := [4]) (by kernel_rfl) (by simp) ?_
              refine AllReadyH.cons rfl (fun K hK => ?_) (AllReadyH.nil)
              · have hc := (cells_of L6.out.k i).trans (ctxRow_at i hi)
                have hv := ctxRow_bd i
                generalize ctxRow.getD i 0 = v at hc hv
                refine step_run2 10 rfl (.int .i64 v) W6 (by kernel_rfl) (by go_simp) ?_
                refine hK.out _ _ trivial (fun hHeld => ?_)
                simp only [Act.put, List.setIfInBounds_toArray, List.set_cons_zero, List.set_cons_succ]
                clear hK K hc
                refine take_lit (i := 10) (v := sm0V v (1 + q) o m c) 16 rfl rfl (by kernel_rfl) (by kernel_rfl) (by kernel_rfl) (fun _ _ _ h => h) (Or.inl ⟨by rfl, fun w _ => by kernel_rfl⟩) (by trivial) ?_
                simp only [Act.put, List.setIfInBounds_toArray, List.set_cons_zero, List.set_cons_succ]
                refine wpAnyH_ready (rs := [12]) (by kernel_rfl) (by simp) ?_
                refine AllReadyH.cons rfl (ready_store (n := 26) (by kernel_rfl) rfl (.tmp 3) (.tmp 16) rfl rfl rfl Zs6.out.k rfl rfl info_sm (by simp [Value.oneCell']) ?_) AllReadyH.nil
                intro W8 K9 G9
                have Zk := Lib.hid (show Blk 28 W8 _ _ from K9)
                have Q8 := Lib.hid (Q6.out.row G9 Zs6.out.n hB)
                have M8 := Lib.hid (M6.out.keepRow G9 (own_ne nB))
                refine ⟨trivial, fun hHeld => ?_⟩
                clear K9 G9
                refine wpAnyH_done (by kernel_rfl) ?_ _
                refine NoPanic.normal ?_
                go_wp2_with fail
                go_meet
                exact ⟨_, _, ⟨v, 1 + q, 0, 0, 0, 0, 0, ⟨0, 0, 0, 0, 0, 0, 0, 0, 0, 0, 0, 0, 0, 0, 0⟩, 0, 0, 0, o, m, c, zs⟩, rfl, rfl, ⟨Q8.out, Zk.out, ⟨M8.out, ho.out, hm, nB⟩, hB⟩, ⟨hv, by dsimp only; omega, rfl, rfl, rfl, rfl, rfl, rfl, rfl, rfl, rfl⟩⟩
        · skip
          have Q4 := Lib.hid (Q3.out.alloc (.cells z26 28))
          have L4 := Lib.hid (L3.out.alloc (.cells z26 28))
          have Zs4 := Lib.hid (OB.new (g := g) (W := W3) 28 z26 Q3.out.d.lt)
          have hB : w.heap.size < W3.heap.size := Q3.out.zr.lt
          refine step_run2 3 rfl (.pointer (some ⟨W3.heap.size, 0, none⟩)) (W3.alloc (.cells z26 28)) (by kernel_rfl) (by kernel_rfl) ?_
          refine hK.out _ _ trivial (fun hHeld => ?_)
          simp only [Act.put, List.setIfInBounds_toArray, List.set_cons_zero, List.set_cons_succ]
          clear hK K
          generalize hW4 : W3.alloc (.cells z26 28) = W4 at Q4 L4 Zs4 ⊢
          clear hW4
          refine wpAnyH_ready (rs := [4, 6]) (by kernel_rfl) (by simp) ?_
          refine AllReadyH.cons rfl (fun K hK => ?_) (AllReadyH.cons rfl (fun K hK => ?_) (AllReadyH.nil))
          · have hc := (cells_of L4.out.k i).trans (ctxRow_at i hi)
            have hv := ctxRow_bd i
            generalize ctxRow.getD i 0 = v at hc hv
            refine step_run2 10 rfl (.int .i64 v) W4 (by kernel_rfl) (by go_simp) ?_
            refine hK.out _ _ trivial (fun hHeld => ?_)
            simp only [Act.put, List.setIfInBounds_toArray, List.set_cons_zero, List.set_cons_succ]
            clear hK K hc
            refine wpAnyH_ready (rs := [6]) (by kernel_rfl) (by simp) ?_
            refine AllReadyH.cons rfl (fun K hK => ?_) (AllReadyH.nil)
            · skip
              refine step_call 12 rfl 26 #[.pointer (some ⟨g, 0, none⟩), .int .i64 6] (by kernel_rfl) (by kernel_rfl) (next_in g 6 _ Q4.out.d (by omega) (by omega)) ?_
              rintro e W6 ⟨q, rfl, q0, q1, hd, hg⟩
              have L6 := Lib.hid (L4.out.call hg)
              have Zs6 := Lib.hid (Zs4.out.call hg)
              have Q6 := Lib.hid (Q4.out.call hlt hd hg)
              clear hd hg
              refine ⟨_, rfl, ?_⟩
              refine hK.out _ _ trivial (fun hHeld => ?_)
              simp only [Act.put, List.setIfInBounds_toArray, List.set_cons_zero, List.set_cons_succ]
              clear hK K
              refine take_lit (i := 7) (v := .int .i64 (1 + q)) 13 rfl rfl (by kernel_rfl) (by kernel_rfl) (by kernel_rfl) (fun _ _ _ h => h) (Or.inl ⟨by rfl, fun w hSw => by go_simp; try (simp [IntKind.wrap, IntKind.signed, IntKind.bits]; omega)⟩) (by trivial) ?_
              simp only [Act.put, List.setIfInBounds_toArray, List.set_cons_zero, List.set_cons_succ]
              refine wpAnyH_ready (rs := [9]) (by kernel_rfl) (by simp) ?_
              refine AllReadyH.cons rfl (fun K hK => ?_) (AllReadyH.nil)
              · skip
                refine step_call 15 rfl 46 #[.pointer (some ⟨g, 0, none⟩), .int .i64 12] (by kernel_rfl) (by kernel_rfl) (bytes_in g 12 W6 Q6.out.d (by omega)) ?_
                rintro e W7 ⟨o, m, c, zs, rfl, hm, mk, ho, hd, hg⟩
                replace ho := Lib.hid ho
                have nB : ∀ x, o = some x → x.block ≠ W3.heap.size := fun x e => by have h1 := (mk.own_ge x.block (by rw [e]; rfl)).1; have h2 := Zs6.out.k.lt; omega
                have M7 := Lib.hid (mk.mono (B' := w.heap.size + 1) Q6.out.zr.lt)
                have L7 := Lib.hid (L6.out.call hg)
                have Zs7 := Lib.hid (Zs6.out.call hg)
                have Q7 := Lib.hid (Q6.out.call hlt hd hg)
                clear hd hg mk
                refine ⟨_, rfl, ?_⟩
                refine hK.out _ _ trivial (fun hHeld => ?_)
                simp only [Act.put, List.setIfInBounds_toArray, List.set_cons_zero, List.set_cons_succ]
                clear hK K
                refine take_lit (i := 10) (v := sm0V v (1 + q) o m c) 16 rfl rfl (by kernel_rfl) (by kernel_rfl) (by kernel_rfl) (fun _ _ _ h => h) (Or.inl ⟨by rfl, fun w _ => by kernel_rfl⟩) (by trivial) ?_
                simp only [Act.put, List.setIfInBounds_toArray, List.set_cons_zero, List.set_cons_succ]
                refine wpAnyH_ready (rs := [12]) (by kernel_rfl) (by simp) ?_
                refine AllReadyH.cons rfl (ready_store (n := 26) (by kernel_rfl) rfl (.tmp 3) (.tmp 16) rfl rfl rfl Zs7.out.k rfl rfl info_sm (by simp [Value.oneCell']) ?_) AllReadyH.nil
                intro W8 K9 G9
                have Zk := Lib.hid (show Blk 28 W8 _ _ from K9)
                have Q8 := Lib.hid (Q7.out.row G9 Zs7.out.n hB)
                have M8 := Lib.hid (M7.out.keepRow G9 (own_ne nB))
                refine ⟨trivial, fun hHeld => ?_⟩
                clear K9 G9
                refine wpAnyH_done (by kernel_rfl) ?_ _
                refine NoPanic.normal ?_
                go_wp2_with fail
                go_meet
                exact ⟨_, _, ⟨v, 1 + q, 0, 0, 0, 0, 0, ⟨0, 0, 0, 0, 0, 0, 0, 0, 0, 0, 0, 0, 0, 0, 0⟩, 0, 0, 0, o, m, c, zs⟩, rfl, rfl, ⟨Q8.out, Zk.out, ⟨M8.out, ho.out, hm, nB⟩, hB⟩, ⟨hv, by dsimp only; omega, rfl, rfl, rfl, rfl, rfl, rfl, rfl, rfl, rfl⟩⟩
          · skip
            refine step_call 12 rfl 26 #[.pointer (some ⟨g, 0, none⟩), .int .i64 6] (by kernel_rfl) (by kernel_rfl) (next_in g 6 _ Q4.out.d (by omega) (by omega)) ?_
            rintro e W5 ⟨q, rfl, q0, q1, hd, hg⟩
            have L5 := Lib.hid (L4.out.call hg)
            have Zs5 := Lib.hid (Zs4.out.call hg)
            have Q5 := Lib.hid (Q4.out.call hlt hd hg)
            clear hd hg
            refine ⟨_, rfl, ?_⟩
            refine hK.out _ _ trivial (fun hHeld => ?_)
            simp only [Act.put, List.setIfInBounds_toArray, List.set_cons_zero, List.set_cons_succ]
            clear hK K
            refine take_lit (i := 7) (v := .int .i64 (1 + q)) 13 rfl rfl (by kernel_rfl) (by kernel_rfl) (by kernel_rfl) (fun _ _ _ h => h) (Or.inl ⟨by rfl, fun w hSw => by go_simp; try (simp [IntKind.wrap, IntKind.signed, IntKind.bits]; omega)⟩) (by trivial) ?_
            simp only [Act.put, List.setIfInBounds_toArray, List.set_cons_zero, List.set_cons_succ]
            refine wpAnyH_ready (rs := [4, 9]) (by kernel_rfl) (by simp) ?_
            refine AllReadyH.cons rfl (fun K hK => ?_) (AllReadyH.cons rfl (fun K hK => ?_) (AllReadyH.nil))
            · have hc := (cells_of L5.out.k i).trans (ctxRow_at i hi)
              have hv := ctxRow_bd i
              generalize ctxRow.getD i 0 = v at hc hv
              refine step_run2 10 rfl (.int .i64 v) W5 (by kernel_rfl) (by go_simp) ?_
              refine hK.out _ _ trivial (fun hHeld => ?_)
              simp only [Act.put, List.setIfInBounds_toArray, List.set_cons_zero, List.set_cons_succ]
              clear hK K hc
              refine wpAnyH_ready (rs := [9]) (by kernel_rfl) (by simp) ?_
              refine AllReadyH.cons rfl (fun K hK => ?_) (AllReadyH.nil)
              · skip
                refine step_call 15 rfl 46 #[.pointer (some ⟨g, 0, none⟩), .int .i64 12] (by kernel_rfl) (by kernel_rfl) (bytes_in g 12 W5 Q5.out.d (by omega)) ?_
                rintro e W7 ⟨o, m, c, zs, rfl, hm, mk, ho, hd, hg⟩
                replace ho := Lib.hid ho
                have nB : ∀ x, o = some x → x.block ≠ W3.heap.size := fun x e => by have h1 := (mk.own_ge x.block (by rw [e]; rfl)).1; have h2 := Zs5.out.k.lt; omega
                have M7 := Lib.hid (mk.mono (B' := w.heap.size + 1) Q5.out.zr.lt)
                have L7 := Lib.hid (L5.out.call hg)
                have Zs7 := Lib.hid (Zs5.out.call hg)
                have Q7 := Lib.hid (Q5.out.call hlt hd hg)
                clear hd hg mk
                refine ⟨_, rfl, ?_⟩
                refine hK.out _ _ trivial (fun hHeld => ?_)
                simp only [Act.put, List.setIfInBounds_toArray, List.set_cons_zero, List.set_cons_succ]
                clear hK K
                refine take_lit (i := 10) (v := sm0V v (1 + q) o m c) 16 rfl rfl (by kernel_rfl) (by kernel_rfl) (by kernel_rfl) (fun _ _ _ h => h) (Or.inl ⟨by rfl, fun w _ => by kernel_rfl⟩) (by trivial) ?_
                simp only [Act.put, List.setIfInBounds_toArray, List.set_cons_zero, List.set_cons_succ]
                refine wpAnyH_ready (rs := [12]) (by kernel_rfl) (by simp) ?_
                refine AllReadyH.cons rfl (ready_store (n := 26) (by kernel_rfl) rfl (.tmp 3) (.tmp 16) rfl rfl rfl Zs7.out.k rfl rfl info_sm (by simp [Value.oneCell']) ?_) AllReadyH.nil
                intro W8 K9 G9
                have Zk := Lib.hid (show Blk 28 W8 _ _ from K9)
                have Q8 := Lib.hid (Q7.out.row G9 Zs7.out.n hB)
                have M8 := Lib.hid (M7.out.keepRow G9 (own_ne nB))
                refine ⟨trivial, fun hHeld => ?_⟩
                clear K9 G9
                refine wpAnyH_done (by kernel_rfl) ?_ _
                refine NoPanic.normal ?_
                go_wp2_with fail
                go_meet
                exact ⟨_, _, ⟨v, 1 + q, 0, 0, 0, 0, 0, ⟨0, 0, 0, 0, 0, 0, 0, 0, 0, 0, 0, 0, 0, 0, 0⟩, 0, 0, 0, o, m, c, zs⟩, rfl, rfl, ⟨Q8.out, Zk.out, ⟨M8.out, ho.out, hm, nB⟩, hB⟩, ⟨hv, by dsimp only; omega, rfl, rfl, rfl, rfl, rfl, rfl, rfl, rfl, rfl⟩⟩
            · skip
              refine step_call 15 rfl 46 #[.pointer (some ⟨g, 0, none⟩), .int .i64 12] (by kernel_rfl) (by kernel_rfl) (bytes_in g 12 W5 Q5.out.d (by omega)) ?_
              rintro e W6 ⟨o, m, c, zs, rfl, hm, mk, ho, hd, hg⟩
              replace ho := Lib.hid ho
              have nB : ∀ x, o = some x → x.block ≠ W3.heap.size := fun x e => by have h1 := (mk.own_ge x.block (by rw [e]; rfl)).1; have h2 := Zs5.out.k.lt; omega
              have M6 := Lib.hid (mk.mono (B' := w.heap.size + 1) Q5.out.zr.lt)
              have L6 := Lib.hid (L5.out.call hg)
              have Zs6 := Lib.hid (Zs5.out.call hg)
              have Q6 := Lib.hid (Q5.out.call hlt hd hg)
              clear hd hg mk
              refine ⟨_, rfl, ?_⟩
              refine hK.out _ _ trivial (fun hHeld => ?_)
              simp only [Act.put, List.setIfInBounds_toArray, List.set_cons_zero, List.set_cons_succ]
              clear hK K
              refine wpAnyH_ready (rs := [4]) (by kernel_rfl) (by simp) ?_
              refine AllReadyH.cons rfl (fun K hK => ?_) (AllReadyH.nil)
              · have hc := (cells_of L6.out.k i).trans (ctxRow_at i hi)
                have hv := ctxRow_bd i
                generalize ctxRow.getD i 0 = v at hc hv
                refine step_run2 10 rfl (.int .i64 v) W6 (by kernel_rfl) (by go_simp) ?_
                refine hK.out _ _ trivial (fun hHeld => ?_)
                simp only [Act.put, List.setIfInBounds_toArray, List.set_cons_zero, List.set_cons_succ]
                clear hK K hc
                refine take_lit (i := 10) (v := sm0V v (1 + q) o m c) 16 rfl rfl (by kernel_rfl) (by kernel_rfl) (by kernel_rfl) (fun _ _ _ h => h) (Or.inl ⟨by rfl, fun w _ => by kernel_rfl⟩) (by trivial) ?_
                simp only [Act.put, List.setIfInBounds_toArray, List.set_cons_zero, List.set_cons_succ]
                refine wpAnyH_ready (rs := [12]) (by kernel_rfl) (by simp) ?_
                refine AllReadyH.cons rfl (ready_store (n := 26) (by kernel_rfl) rfl (.tmp 3) (.tmp 16) rfl rfl rfl Zs6.out.k rfl rfl info_sm (by simp [Value.oneCell']) ?_) AllReadyH.nil
                intro W8 K9 G9
                have Zk := Lib.hid (show Blk 28 W8 _ _ from K9)
                have Q8 := Lib.hid (Q6.out.row G9 Zs6.out.n hB)
                have M8 := Lib.hid (M6.out.keepRow G9 (own_ne nB))
                refine ⟨trivial, fun hHeld => ?_⟩
                clear K9 G9
                refine wpAnyH_done (by kernel_rfl) ?_ _
                refine NoPanic.normal ?_
                go_wp2_with fail
                go_meet
                exact ⟨_, _, ⟨v, 1 + q, 0, 0, 0, 0, 0, ⟨0, 0, 0, 0, 0, 0, 0, 0, 0, 0, 0, 0, 0, 0, 0⟩, 0, 0, 0, o, m, c, zs⟩, rfl, rfl, ⟨Q8.out, Zk.out, ⟨M8.out, ho.out, hm, nB⟩, hB⟩, ⟨hv, by dsimp only; omega, rfl, rfl, rfl, rfl, rfl, rfl, rfl, rfl, rfl⟩⟩
      · skip
        have Q3 := Lib.hid (Q2.out.alloc (.cells z26 28))
        have L3 := Lib.hid (L2.out.alloc (.cells z26 28))
        have Zs3 := Lib.hid (OB.new (g := g) (W := W2) 28 z26 Q2.out.d.lt)
        have hB : w.heap.size < W2.heap.size := Q2.out.zr.lt
        refine step_run2 3 rfl (.pointer (some ⟨W2.heap.size, 0, none⟩)) (W2.alloc (.cells z26 28)) (by kernel_rfl) (by kernel_rfl) ?_
        refine hK.out _ _ trivial (fun hHeld => ?_)
        simp only [Act.put, List.setIfInBounds_toArray, List.set_cons_zero, List.set_cons_succ]
        clear hK K
        generalize hW3 : W2.alloc (.cells z26 28) = W3 at Q3 L3 Zs3 ⊢
        clear hW3
        refine wpAnyH_ready (rs := [2]) (by kernel_rfl) (by simp) ?_
        refine AllReadyH.cons rfl (fun K hK => ?_) (AllReadyH.nil)
        · skip
          refine step_call 8 rfl 26 #[.pointer (some ⟨g, 0, none⟩), .int .i64 4] (by kernel_rfl) (by kernel_rfl) (next_in g 4 _ Q3.out.d (by omega) (by omega)) ?_
          rintro e W4 ⟨x, rfl, x0, x1, hd, hg⟩
          obtain ⟨i, rfl⟩ := Int.eq_ofNat_of_zero_le x0
          have hi : i < 4 := by omega
          have hI : (i : Int) < 4 := by omega
          have L4 := Lib.hid (L3.out.call hg)
          have Zs4 := Lib.hid (Zs3.out.call hg)
          have Q4 := Lib.hid (Q3.out.call hlt hd hg)
          clear hd hg
          refine ⟨_, rfl, ?_⟩
          refine hK.out _ _ trivial (fun hHeld => ?_)
          simp only [Act.put, List.setIfInBounds_toArray, List.set_cons_zero, List.set_cons_succ]
          clear hK K
          refine take_lit (i := 3) (v := .pointer (some ⟨W1.heap.size, i, none⟩)) 9 rfl rfl (by kernel_rfl) (by kernel_rfl) (by kernel_rfl) (fun _ _ _ h => h) (Or.inl ⟨by rfl, fun w hSw => by clear hSw; go_simp; try (intro h9; exact absurd (h9 (by omega)) (by omega))⟩) (by trivial) ?_
          simp only [Act.put, List.setIfInBounds_toArray, List.set_cons_zero, List.set_cons_succ]
          refine wpAnyH_ready (rs := [4, 6]) (by kernel_rfl) (by simp) ?_
          refine AllReadyH.cons rfl (fun K hK => ?_) (AllReadyH.cons rfl (fun K hK => ?_) (AllReadyH.nil))
          · have hc := (cells_of L4.out.k i).trans (ctxRow_at i hi)
            have hv := ctxRow_bd i
            generalize ctxRow.getD i 0 = v at hc hv
            refine step_run2 10 rfl (.int .i64 v) W4 (by kernel_rfl) (by go_simp) ?_
            refine hK.out _ _ trivial (fun hHeld => ?_)
            simp only [Act.put, List.setIfInBounds_toArray, List.set_cons_zero, List.set_cons_succ]
            clear hK K hc
            refine wpAnyH_ready (rs := [6]) (by kernel_rfl) (by simp) ?_
            refine AllReadyH.cons rfl (fun K hK => ?_) (AllReadyH.nil)
            · skip
              refine step_call 12 rfl 26 #[.pointer (some ⟨g, 0, none⟩), .int .i64 6] (by kernel_rfl) (by kernel_rfl) (next_in g 6 _ Q4.out.d (by omega) (by omega)) ?_
              rintro e W6 ⟨q, rfl, q0, q1, hd, hg⟩
              have L6 := Lib.hid (L4.out.call hg)
              have Zs6 := Lib.hid (Zs4.out.call hg)
              have Q6 := Lib.hid (Q4.out.call hlt hd hg)
              clear hd hg
              refine ⟨_, rfl, ?_⟩
              refine hK.out _ _ trivial (fun hHeld => ?_)
              simp only [Act.put, List.setIfInBounds_toArray, List.set_cons_zero, List.set_cons_succ]
              clear hK K
              refine take_lit (i := 7) (v := .int .i64 (1 + q)) 13 rfl rfl (by kernel_rfl) (by kernel_rfl) (by kernel_rfl) (fun _ _ _ h => h) (Or.inl ⟨by rfl, fun w hSw => by go_simp; try (simp [IntKind.wrap, IntKind.signed, IntKind.bits]; omega)⟩) (by trivial) ?_
              simp only [Act.put, List.setIfInBounds_toArray, List.set_cons_zero, List.set_cons_succ]
              refine wpAnyH_ready (rs := [9]) (by kernel_rfl) (by simp) ?_
              refine AllReadyH.cons rfl (fun K hK => ?_) (AllReadyH.nil)
              · skip
                refine step_call 15 rfl 46 #[.pointer (some ⟨g, 0, none⟩), .int .i64 12] (by kernel_rfl) (by kernel_rfl) (bytes_in g 12 W6 Q6.out.d (by omega)) ?_
                rintro e W7 ⟨o, m, c, zs, rfl, hm, mk, ho, hd, hg⟩
                replace ho := Lib.hid ho
                have nB : ∀ x, o = some x → x.block ≠ W2.heap.size := fun x e => by have h1 := (mk.own_ge x.block (by rw [e]; rfl)).1; have h2 := Zs6.out.k.lt; omega
                have M7 := Lib.hid (mk.mono (B' := w.heap.size + 1) Q6.out.zr.lt)
                have L7 := Lib.hid (L6.out.call hg)
                have Zs7 := Lib.hid (Zs6.out.call hg)
                have Q7 := Lib.hid (Q6.out.call hlt hd hg)
                clear hd hg mk
                refine ⟨_, rfl, ?_⟩
                refine hK.out _ _ trivial (fun hHeld => ?_)
                simp only [Act.put, List.setIfInBounds_toArray, List.set_cons_zero, List.set_cons_succ]
                clear hK K
                refine take_lit (i := 10) (v := sm0V v (1 + q) o m c) 16 rfl rfl (by kernel_rfl) (by kernel_rfl) (by kernel_rfl) (fun _ _ _ h => h) (Or.inl ⟨by rfl, fun w _ => by kernel_rfl⟩) (by trivial) ?_
                simp only [Act.put, List.setIfInBounds_toArray, List.set_cons_zero, List.set_cons_succ]
                refine wpAnyH_ready (rs := [12]) (by kernel_rfl) (by simp) ?_
                refine AllReadyH.cons rfl (ready_store (n := 26) (by kernel_rfl) rfl (.tmp 3) (.tmp 16) rfl rfl rfl Zs7.out.k rfl rfl info_sm (by simp [Value.oneCell']) ?_) AllReadyH.nil
                intro W8 K9 G9
                have Zk := Lib.hid (show Blk 28 W8 _ _ from K9)
                have Q8 := Lib.hid (Q7.out.row G9 Zs7.out.n hB)
                have M8 := Lib.hid (M7.out.keepRow G9 (own_ne nB))
                refine ⟨trivial, fun hHeld => ?_⟩
                clear K9 G9
                refine wpAnyH_done (by kernel_rfl) ?_ _
                refine NoPanic.normal ?_
                go_wp2_with fail
                go_meet
                exact ⟨_, _, ⟨v, 1 + q, 0, 0, 0, 0, 0, ⟨0, 0, 0, 0, 0, 0, 0, 0, 0, 0, 0, 0, 0, 0, 0⟩, 0, 0, 0, o, m, c, zs⟩, rfl, rfl, ⟨Q8.out, Zk.out, ⟨M8.out, ho.out, hm, nB⟩, hB⟩, ⟨hv, by dsimp only; omega, rfl, rfl, rfl, rfl, rfl, rfl, rfl, rfl, rfl⟩⟩
          · skip
            refine step_call 12 rfl 26 #[.pointer (some ⟨g, 0, none⟩), .int .i64 6] (by kernel_rfl) (by kernel_rfl) (next_in g 6 _ Q4.out.d (by omega) (by omega)) ?_
            rintro e W5 ⟨q, rfl, q0, q1, hd, hg⟩
            have L5 := Lib.hid (L4.out.call hg)
            have Zs5 := Lib.hid (Zs4.out.call hg)
            have Q5 := Lib.hid (Q4.out.call hlt hd hg)
            clear hd hg
            refine ⟨_, rfl, ?_⟩
            refine hK.out _ _ trivial (fun hHeld => ?_)
            simp only [Act.put, List.setIfInBounds_toArray, List.set_cons_zero, List.set_cons_succ]
            clear hK K
            refine take_lit (i := 7) (v := .int .i64 (1 + q)) 13 rfl rfl (by kernel_rfl) (by kernel_rfl) (by kernel_rfl) (fun _ _ _ h => h) (Or.inl ⟨by rfl, fun w hSw => by go_simp; try (simp [IntKind.wrap, IntKind.signed, IntKind.bits]; omega)⟩) (by trivial) ?_
            simp only [Act.put, List.setIfInBounds_toArray, List.set_cons_zero, List.set_cons_succ]
            refine wpAnyH_ready (rs := [4, 9]) (by kernel_rfl) (by simp) ?_
            refine AllReadyH.cons rfl (fun K hK => ?_) (AllReadyH.cons rfl (fun K hK => ?_) (AllReadyH.nil))
            · have hc := (cells_of L5.out.k i).trans (ctxRow_at i hi)
              have hv := ctxRow_bd i
              generalize ctxRow.getD i 0 = v at hc hv
              refine step_run2 10 rfl (.int .i64 v) W5 (by kernel_rfl) (by go_simp) ?_
              refine hK.out _ _ trivial (fun hHeld => ?_)
              simp only [Act.put, List.setIfInBounds_toArray, List.set_cons_zero, List.set_cons_succ]
              clear hK K hc
              refine wpAnyH_ready (rs := [9]) (by kernel_rfl) (by simp) ?_
              refine AllReadyH.cons rfl (fun K hK => ?_) (AllReadyH.nil)
              · skip
                refine step_call 15 rfl 46 #[.pointer (some ⟨g, 0, none⟩), .int .i64 12] (by kernel_rfl) (by kernel_rfl) (bytes_in g 12 W5 Q5.out.d (by omega)) ?_
                rintro e W7 ⟨o, m, c, zs, rfl, hm, mk, ho, hd, hg⟩
                replace ho := Lib.hid ho
                have nB : ∀ x, o = some x → x.block ≠ W2.heap.size := fun x e => by have h1 := (mk.own_ge x.block (by rw [e]; rfl)).1; have h2 := Zs5.out.k.lt; omega
                have M7 := Lib.hid (mk.mono (B' := w.heap.size + 1) Q5.out.zr.lt)
                have L7 := Lib.hid (L5.out.call hg)
                have Zs7 := Lib.hid (Zs5.out.call hg)
                have Q7 := Lib.hid (Q5.out.call hlt hd hg)
                clear hd hg mk
                refine ⟨_, rfl, ?_⟩
                refine hK.out _ _ trivial (fun hHeld => ?_)
                simp only [Act.put, List.setIfInBounds_toArray, List.set_cons_zero, List.set_cons_succ]
                clear hK K
                refine take_lit (i := 10) (v := sm0V v (1 + q) o m c) 16 rfl rfl (by kernel_rfl) (by kernel_rfl) (by kernel_rfl) (fun _ _ _ h => h) (Or.inl ⟨by rfl, fun w _ => by kernel_rfl⟩) (by trivial) ?_
                simp only [Act.put, List.setIfInBounds_toArray, List.set_cons_zero, List.set_cons_succ]
                refine wpAnyH_ready (rs := [12]) (by kernel_rfl) (by simp) ?_
                refine AllReadyH.cons rfl (ready_store (n := 26) (by kernel_rfl) rfl (.tmp 3) (.tmp 16) rfl rfl rfl Zs7.out.k rfl rfl info_sm (by simp [Value.oneCell']) ?_) AllReadyH.nil
                intro W8 K9 G9
                have Zk := Lib.hid (show Blk 28 W8 _ _ from K9)
                have Q8 := Lib.hid (Q7.out.row G9 Zs7.out.n hB)
                have M8 := Lib.hid (M7.out.keepRow G9 (own_ne nB))
                refine ⟨trivial, fun hHeld => ?_⟩
                clear K9 G9
                refine wpAnyH_done (by kernel_rfl) ?_ _
                refine NoPanic.normal ?_
                go_wp2_with fail
                go_meet
                exact ⟨_, _, ⟨v, 1 + q, 0, 0, 0, 0, 0, ⟨0, 0, 0, 0, 0, 0, 0, 0, 0, 0, 0, 0, 0, 0, 0⟩, 0, 0, 0, o, m, c, zs⟩, rfl, rfl, ⟨Q8.out, Zk.out, ⟨M8.out, ho.out, hm, nB⟩, hB⟩, ⟨hv, by dsimp only; omega, rfl, rfl, rfl, rfl, rfl, rfl, rfl, rfl, rfl⟩⟩
            · skip
              refine step_call 15 rfl 46 #[.pointer (some ⟨g, 0, none⟩), .int .i64 12] (by kernel_rfl) (by kernel_rfl) (bytes_in g 12 W5 Q5.out.d (by omega)) ?_
              rintro e W6 ⟨o, m, c, zs, rfl, hm, mk, ho, hd, hg⟩
              replace ho := Lib.hid ho
              have nB : ∀ x, o = some x → x.block ≠ W2.heap.size := fun x e => by have h1 := (mk.own_ge x.block (by rw [e]; rfl)).1; have h2 := Zs5.out.k.lt; omega
              have M6 := Lib.hid (mk.mono (B' := w.heap.size + 1) Q5.out.zr.lt)
              have L6 := Lib.hid (L5.out.call hg)
              have Zs6 := Lib.hid (Zs5.out.call hg)
              have Q6 := Lib.hid (Q5.out.call hlt hd hg)
              clear hd hg mk
              refine ⟨_, rfl, ?_⟩
              refine hK.out _ _ trivial (fun hHeld => ?_)
              simp only [Act.put, List.setIfInBounds_toArray, List.set_cons_zero, List.set_cons_succ]
              clear hK K
              refine wpAnyH_ready (rs := [4]) (by kernel_rfl) (by simp) ?_
              refine AllReadyH.cons rfl (fun K hK => ?_) (AllReadyH.nil)
              · have hc := (cells_of L6.out.k i).trans (ctxRow_at i hi)
                have hv := ctxRow_bd i
                generalize ctxRow.getD i 0 = v at hc hv
                refine step_run2 10 rfl (.int .i64 v) W6 (by kernel_rfl) (by go_simp) ?_
                refine hK.out _ _ trivial (fun hHeld => ?_)
                simp only [Act.put, List.setIfInBounds_toArray, List.set_cons_zero, List.set_cons_succ]
                clear hK K hc
                refine take_lit (i := 10) (v := sm0V v (1 + q) o m c) 16 rfl rfl (by kernel_rfl) (by kernel_rfl) (by kernel_rfl) (fun _ _ _ h => h) (Or.inl ⟨by rfl, fun w _ => by kernel_rfl⟩) (by trivial) ?_
                simp only [Act.put, List.setIfInBounds_toArray, List.set_cons_zero, List.set_cons_succ]
                refine wpAnyH_ready (rs := [12]) (by kernel_rfl) (by simp) ?_
                refine AllReadyH.cons rfl (ready_store (n := 26) (by kernel_rfl) rfl (.tmp 3) (.tmp 16) rfl rfl rfl Zs6.out.k rfl rfl info_sm (by simp [Value.oneCell']) ?_) AllReadyH.nil
                intro W8 K9 G9
                have Zk := Lib.hid (show Blk 28 W8 _ _ from K9)
                have Q8 := Lib.hid (Q6.out.row G9 Zs6.out.n hB)
                have M8 := Lib.hid (M6.out.keepRow G9 (own_ne nB))
                refine ⟨trivial, fun hHeld => ?_⟩
                clear K9 G9
                refine wpAnyH_done (by kernel_rfl) ?_ _
                refine NoPanic.normal ?_
                go_wp2_with fail
                go_meet
                exact ⟨_, _, ⟨v, 1 + q, 0, 0, 0, 0, 0, ⟨0, 0, 0, 0, 0, 0, 0, 0, 0, 0, 0, 0, 0, 0, 0⟩, 0, 0, 0, o, m, c, zs⟩, rfl, rfl, ⟨Q8.out, Zk.out, ⟨M8.out, ho.out, hm, nB⟩, hB⟩, ⟨hv, by dsimp only; omega, rfl, rfl, rfl, rfl, rfl, rfl, rfl, rfl, rfl⟩⟩
    · skip
      refine step_call 8 rfl 26 #[.pointer (some ⟨g, 0, none⟩), .int .i64 4] (by kernel_rfl) (by kernel_rfl) (next_in g 4 _ Q1.out.d (by omega) (by omega)) ?_
      rintro e W2 ⟨x, rfl, x0, x1, hd, hg⟩
      obtain ⟨i, rfl⟩ := Int.eq_ofNat_of_zero_le x0
      have hi : i < 4 := by omega
      have hI : (i : Int) < 4 := by omega
      have Q2 := Lib.hid (Q1.out.call hlt hd hg)
      clear hd hg
      refine ⟨_, rfl, ?_⟩
      refine hK.out _ _ trivial (fun hHeld => ?_)
      simp only [Act.put, List.setIfInBounds_toArray, List.set_cons_zero, List.set_cons_succ]
      clear hK K
      refine wpAnyH_ready (rs := [0, 6, 11]) (by kernel_rfl) (by simp) ?_
      refine AllReadyH.cons rfl (fun K hK => ?_) (AllReadyH.cons rfl (fun K hK => ?_) (AllReadyH.cons rfl (fun K hK => ?_) (AllReadyH.nil)))
      · skip
        have Q3 := Lib.hid (Q2.out.alloc (.cells #[.int .i64 0, .int .i64 0, .int .i64 1, .int .i64 15] 3))
        have L3 := Lib.hid (OB.new (g := g) (W := W2) 3 #[.int .i64 0, .int .i64 0, .int .i64 1, .int .i64 15] Q2.out.d.lt)
        refine step_run2 6 rfl (.slice (some ⟨W2.heap.size, 0, none⟩) 4 4) (W2.alloc (.cells #[.int .i64 0, .int .i64 0, .int .i64 1, .int .i64 15] 3)) (by kernel_rfl) (by kernel_rfl) ?_
        refine hK.out _ _ trivial (fun hHeld => ?_)
        simp only [Act.put, List.setIfInBounds_toArray, List.set_cons_zero, List.set_cons_succ]
        clear hK K
        generalize hW3 : W2.alloc (.cells #[.int .i64 0, .int .i64 0, .int .i64 1, .int .i64 15] 3) = W3 at Q3 L3 ⊢
        clear hW3
        refine take_lit (i := 3) (v := .pointer (some ⟨W2.heap.size, i, none⟩)) 9 rfl rfl (by kernel_rfl) (by kernel_rfl) (by kernel_rfl) (fun _ _ _ h => h) (Or.inl ⟨by rfl, fun w hSw => by clear hSw; go_simp; try (intro h9; exact absurd (h9 (by omega)) (by omega))⟩) (by trivial) ?_
        simp only [Act.put, List.setIfInBounds_toArray, List.set_cons_zero, List.set_cons_succ]
        refine wpAnyH_ready (rs := [4, 6, 11]) (by kernel_rfl) (by simp) ?_
        refine AllReadyH.cons rfl (fun K hK => ?_) (AllReadyH.cons rfl (fun K hK => ?_) (AllReadyH.cons rfl (fun K hK => ?_) (AllReadyH.nil)))
        · have hc := (cells_of L3.out.k i).trans (ctxRow_at i hi)
          have hv := ctxRow_bd i
          generalize ctxRow.getD i 0 = v at hc hv
          refine step_run2 10 rfl (.int .i64 v) W3 (by kernel_rfl) (by go_simp) ?_
          refine hK.out _ _ trivial (fun hHeld => ?_)
          simp only [Act.put, List.setIfInBounds_toArray, List.set_cons_zero, List.set_cons_succ]
          clear hK K hc
          refine wpAnyH_ready (rs := [6, 11]) (by kernel_rfl) (by simp) ?_
          refine AllReadyH.cons rfl (fun K hK => ?_) (AllReadyH.cons rfl (fun K hK => ?_) (AllReadyH.nil))
          · skip
            refine step_call 12 rfl 26 #[.pointer (some ⟨g, 0, none⟩), .int .i64 6] (by kernel_rfl) (by kernel_rfl) (next_in g 6 _ Q3.out.d (by omega) (by omega)) ?_
            rintro e W5 ⟨q, rfl, q0, q1, hd, hg⟩
            have L5 := Lib.hid (L3.out.call hg)
            have Q5 := Lib.hid (Q3.out.call hlt hd hg)
            clear hd hg
            refine ⟨_, rfl, ?_⟩
            refine hK.out _ _ trivial (fun hHeld => ?_)
            simp only [Act.put, List.setIfInBounds_toArray, List.set_cons_zero, List.set_cons_succ]
            clear hK K
            refine take_lit (i := 7) (v := .int .i64 (1 + q)) 13 rfl rfl (by kernel_rfl) (by kernel_rfl) (by kernel_rfl) (fun _ _ _ h => h) (Or.inl ⟨by rfl, fun w hSw => by go_simp; try (simp [IntKind.wrap, IntKind.signed, IntKind.bits]; omega)⟩) (by trivial) ?_
            simp only [Act.put, List.setIfInBounds_toArray, List.set_cons_zero, List.set_cons_succ]
            refine wpAnyH_ready (rs := [9, 11]) (by kernel_rfl) (by simp) ?_
            refine AllReadyH.cons rfl (fun K hK => ?_) (AllReadyH.cons rfl (fun K hK => ?_) (AllReadyH.nil))
            · skip
              refine step_call 15 rfl 46 #[.pointer (some ⟨g, 0, none⟩), .int .i64 12] (by kernel_rfl) (by kernel_rfl) (bytes_in g 12 W5 Q5.out.d (by omega)) ?_
              rintro e W6 ⟨o, m, c, zs, rfl, hm, mk, ho, hd, hg⟩
              replace ho := Lib.hid ho
              have M6 := Lib.hid (mk.mono (B' := w.heap.size + 1) Q5.out.zr.lt)
              have L6 := Lib.hid (L5.out.call hg)
              have Q6 := Lib.hid (Q5.out.call hlt hd hg)
              clear hd hg mk
              refine ⟨_, rfl, ?_⟩
              refine hK.out _ _ trivial (fun hHeld => ?_)
              simp only [Act.put, List.setIfInBounds_toArray, List.set_cons_zero, List.set_cons_succ]
              clear hK K
              refine take_lit (i := 10) (v := sm0V v (1 + q) o m c) 16 rfl rfl (by kernel_rfl) (by kernel_rfl) (by kernel_rfl) (fun _ _ _ h => h) (Or.inl ⟨by rfl, fun w _ => by kernel_rfl⟩) (by trivial) ?_
              simp only [Act.put, List.setIfInBounds_toArray, List.set_cons_zero, List.set_cons_succ]
              refine wpAnyH_ready (rs := [11]) (by kernel_rfl) (by simp) ?_
              refine AllReadyH.cons rfl (fun K hK => ?_) (AllReadyH.nil)
              · skip
                have Q7 := Lib.hid (Q6.out.alloc (.cells z26 28))
                have L7 := Lib.hid (L6.out.alloc (.cells z26 28))
                have M7 := Lib.hid (M6.out.alloc (.cells z26 28))
                have Zs7 := Lib.hid (OB.new (g := g) (W := W6) 28 z26 Q6.out.d.lt)
                have hB : w.heap.size < W6.heap.size := Q6.out.zr.lt
                have nB : ∀ x, o = some x → x.block ≠ W6.heap.size := fun x e => by have := (M6.out.own_ge x.block (by rw [e]; rfl)).2; omega
                refine step_run2 3 rfl (.pointer (some ⟨W6.heap.size, 0, none⟩)) (W6.alloc (.cells z26 28)) (by kernel_rfl) (by kernel_rfl) ?_
                refine hK.out _ _ trivial (fun hHeld => ?_)
                simp only [Act.put, List.setIfInBounds_toArray, List.set_cons_zero, List.set_cons_succ]
                clear hK K
                generalize hW7 : W6.alloc (.cells z26 28) = W7 at Q7 L7 Zs7 M7 ⊢
                clear hW7
                refine wpAnyH_ready (rs := [12]) (by kernel_rfl) (by simp) ?_
                refine AllReadyH.cons rfl (ready_store (n := 26) (by kernel_rfl) rfl (.tmp 3) (.tmp 16) rfl rfl rfl Zs7.out.k rfl rfl info_sm (by simp [Value.oneCell']) ?_) AllReadyH.nil
                intro W8 K9 G9
                have Zk := Lib.hid (show Blk 28 W8 _ _ from K9)
                have Q8 := Lib.hid (Q7.out.row G9 Zs7.out.n hB)
                have M8 := Lib.hid (M7.out.keepRow G9 (own_ne nB))
                refine ⟨trivial, fun hHeld => ?_⟩
                clear K9 G9
                refine wpAnyH_done (by kernel_rfl) ?_ _
                refine NoPanic.normal ?_
                go_wp2_with fail
                go_meet
                exact ⟨_, _, ⟨v, 1 + q, 0, 0, 0, 0, 0, ⟨0, 0, 0, 0, 0, 0, 0, 0, 0, 0, 0, 0, 0, 0, 0⟩, 0, 0, 0, o, m, c, zs⟩, rfl, rfl, ⟨Q8.out, Zk.out, ⟨M8.out, ho.out, hm, nB⟩, hB⟩, ⟨hv, by dsimp only; omega, rfl, rfl, rfl, rfl, rfl, rfl, rfl, rfl, rfl⟩⟩
            · skip
              have Q6 := Lib.hid (Q5.out.alloc (.cells z26 28))
              have L6 := Lib.hid (L5.out.alloc (.cells z26 28))
              have Zs6 := Lib.hid (OB.new (g := g) (W := W5) 28 z26 Q5.out.d.lt)
              have hB : w.heap.size < W5.heap.size := Q5.out.zr.lt
              refine step_run2 3 rfl (.pointer (some ⟨W5.heap.size, 0, none⟩)) (W5.alloc (.cells z26 28)) (by kernel_rfl) (by kernel_rfl) ?_
              refine hK.out _ _ trivial (fun hHeld => ?_)
              simp only [Act.put, List.setIfInBounds_toArray, List.set_cons_zero, List.set_cons_succ]
              clear hK K
              generalize hW6 : W5.alloc (.cells z26 28) = W6 at Q6 L6 Zs6 ⊢
              clear hW6
              refine wpAnyH_ready (rs := [9]) (by kernel_rfl) (by simp) ?_
              refine AllReadyH.cons rfl (fun K hK => ?_) (AllReadyH.nil)
              · skip
                refine step_call 15 rfl 46 #[.pointer (some ⟨g, 0, none⟩), .int .i64 12] (by kernel_rfl) (by kernel_rfl) (bytes_in g 12 W6 Q6.out.d (by omega)) ?_
                rintro e W7 ⟨o, m, c, zs, rfl, hm, mk, ho, hd, hg⟩
                replace ho := Lib.hid ho
                have nB : ∀ x, o = some x → x.block ≠ W5.heap.size := fun x e => by have h1 := (mk.own_ge x.block (by rw [e]; rfl)).1; have h2 := Zs6.out.k.lt; omega
                have M7 := Lib.hid (mk.mono (B' := w.heap.size + 1) Q6.out.zr.lt)
                have L7 := Lib.hid (L6.out.call hg)
                have Zs7 := Lib.hid (Zs6.out.call hg)
                have Q7 := Lib.hid (Q6.out.call hlt hd hg)
                clear hd hg mk
                refine ⟨_, rfl, ?_⟩
                refine hK.out _ _ trivial (fun hHeld => ?_)
                simp only [Act.put, List.setIfInBounds_toArray, List.set_cons_zero, List.set_cons_succ]
                clear hK K
                refine take_lit (i := 10) (v := sm0V v (1 + q) o m c) 16 rfl rfl (by kernel_rfl) (by kernel_rfl) (by kernel_rfl) (fun _ _ _ h => h) (Or.inl ⟨by rfl, fun w _ => by kernel_rfl⟩) (by trivial) ?_
                simp only [Act.put, List.setIfInBounds_toArray, List.set_cons_zero, List.set_cons_succ]
                refine wpAnyH_ready (rs := [12]) (by kernel_rfl) (by simp) ?_
                refine AllReadyH.cons rfl (ready_store (n := 26) (by kernel_rfl) rfl (.tmp 3) (.tmp 16) rfl rfl rfl Zs7.out.k rfl rfl info_sm (by simp [Value.oneCell']) ?_) AllReadyH.nil
                intro W8 K9 G9
                have Zk := Lib.hid (show Blk 28 W8 _ _ from K9)
                have Q8 := Lib.hid (Q7.out.row G9 Zs7.out.n hB)
                have M8 := Lib.hid (M7.out.keepRow G9 (own_ne nB))
                refine ⟨trivial, fun hHeld => ?_⟩
                clear K9 G9
                refine wpAnyH_done (by kernel_rfl) ?_ _
                refine NoPanic.normal ?_
                go_wp2_with fail
                go_meet
                exact ⟨_, _, ⟨v, 1 + q, 0, 0, 0, 0, 0, ⟨0, 0, 0, 0, 0, 0, 0, 0, 0, 0, 0, 0, 0, 0, 0⟩, 0, 0, 0, o, m, c, zs⟩, rfl, rfl, ⟨Q8.out, Zk.out, ⟨M8.out, ho.out, hm, nB⟩, hB⟩, ⟨hv, by dsimp only; omega, rfl, rfl, rfl, rfl, rfl, rfl, rfl, rfl, rfl⟩⟩
          · skip
            have Q5 := Lib.hid (Q3.out.alloc (.cells z26 28))
            have L5 := Lib.hid (L3.out.alloc (.cells z26 28))
            have Zs5 := Lib.hid (OB.new (g := g) (W := W3) 28 z26 Q3.out.d.lt)
            have hB : w.heap.size < W3.heap.size := Q3.out.zr.lt
            refine step_run2 3 rfl (.pointer (some ⟨W3.heap.size, 0, none⟩)) (W3.alloc (.cells z26 28)) (by kernel_rfl) (by kernel_rfl) ?_
            refine hK.out _ _ trivial (fun hHeld => ?_)
            simp only [Act.put, List.setIfInBounds_toArray, List.set_cons_zero, List.set_cons_succ]
            clear hK K
            generalize hW5 : W3.alloc (.cells z26 28) = W5 at Q5 L5 Zs5 ⊢
            clear hW5
            refine wpAnyH_ready (rs := [6]) (by kernel_rfl) (by simp) ?_
            refine AllReadyH.cons rfl (fun K hK => ?_) (AllReadyH.nil)
            · skip
              refine step_call 12 rfl 26 #[.pointer (some ⟨g, 0, none⟩), .int .i64 6] (by kernel_rfl) (by kernel_rfl) (next_in g 6 _ Q5.out.d (by omega) (by omega)) ?_
              rintro e W6 ⟨q, rfl, q0, q1, hd, hg⟩
              have L6 := Lib.hid (L5.out.call hg)
              have Zs6 := Lib.hid (Zs5.out.call hg)
              have Q6 := Lib.hid (Q5.out.call hlt hd hg)
              clear hd hg
              refine ⟨_, rfl, ?_⟩
              refine hK.out _ _ trivial (fun hHeld => ?_)
              simp only [Act.put, List.setIfInBounds_toArray, List.set_cons_zero, List.set_cons_succ]
              clear hK K
              refine take_lit (i := 7) (v := .int .i64 (1 + q)) 13 rfl rfl (by kernel_rfl) (by kernel_rfl) (by kernel_rfl) (fun _ _ _ h => h) (Or.inl ⟨by rfl, fun w hSw => by go_simp; try (simp [IntKind.wrap, IntKind.signed, IntKind.bits]; omega)⟩) (by trivial) ?_
              simp only [Act.put, List.setIfInBounds_toArray, List.set_cons_zero, List.set_cons_succ]
              refine wpAnyH_ready (rs := [9]) (by kernel_rfl) (by simp) ?_
              refine AllReadyH.cons rfl (fun K hK => ?_) (AllReadyH.nil)
              · skip
                refine step_call 15 rfl 46 #[.pointer (some ⟨g, 0, none⟩), .int .i64 12] (by kernel_rfl) (by kernel_rfl) (bytes_in g 12 W6 Q6.out.d (by omega)) ?_
                rintro e W7 ⟨o, m, c, zs, rfl, hm, mk, ho, hd, hg⟩
                replace ho := Lib.hid ho
                have nB : ∀ x, o = some x → x.block ≠ W3.heap.size := fun x e => by have h1 := (mk.own_ge x.block (by rw [e]; rfl)).1; have h2 := Zs6.out.k.lt; omega
                have M7 := Lib.hid (mk.mono (B' := w.heap.size + 1) Q6.out.zr.lt)
                have L7 := Lib.hid (L6.out.call hg)
                have Zs7 := Lib.hid (Zs6.out.call hg)
                have Q7 := Lib.hid (Q6.out.call hlt hd hg)
                clear hd hg mk
                refine ⟨_, rfl, ?_⟩
                refine hK.out _ _ trivial (fun hHeld => ?_)
                simp only [Act.put, List.setIfInBounds_toArray, List.set_cons_zero, List.set_cons_succ]
                clear hK K
                refine take_lit (i := 10) (v := sm0V v (1 + q) o m c) 16 rfl rfl (by kernel_rfl) (by kernel_rfl) (by kernel_rfl) (fun _ _ _ h => h) (Or.inl ⟨by rfl, fun w _ => by kernel_rfl⟩) (by trivial) ?_
                simp only [Act.put, List.setIfInBounds_toArray, List.set_cons_zero, List.set_cons_succ]
                refine wpAnyH_ready (rs := [12]) (by kernel_rfl) (by simp) ?_
                refine AllReadyH.cons rfl (ready_store (n := 26) (by kernel_rfl) rfl (.tmp 3) (.tmp 16) rfl rfl rfl Zs7.out.k rfl rfl info_sm (by simp [Value.oneCell']) ?_) AllReadyH.nil
                intro W8 K9 G9
                have Zk := Lib.hid (show Blk 28 W8 _ _ from K9)
                have Q8 := Lib.hid (Q7.out.row G9 Zs7.out.n hB)
                have M8 := Lib.hid (M7.out.keepRow G9 (own_ne nB))
                refine ⟨trivial, fun hHeld => ?_⟩
                clear K9 G9
                refine wpAnyH_done (by kernel_rfl) ?_ _
                refine NoPanic.normal ?_
                go_wp2_with fail
                go_meet
                exact ⟨_, _, ⟨v, 1 + q, 0, 0, 0, 0, 0, ⟨0, 0, 0, 0, 0, 0, 0, 0, 0, 0, 0, 0, 0, 0, 0⟩, 0, 0, 0, o, m, c, zs⟩, rfl, rfl, ⟨Q8.out, Zk.out, ⟨M8.out, ho.out, hm, nB⟩, hB⟩, ⟨hv, by dsimp only; omega, rfl, rfl, rfl, rfl, rfl, rfl, rfl, rfl, rfl⟩⟩
        · skip
          refine step_call 12 rfl 26 #[.pointer (some ⟨g, 0, none⟩), .int .i64 6] (by kernel_rfl) (by kernel_rfl) (next_in g 6 _ Q3.out.d (by omega) (by omega)) ?_
          rintro e W4 ⟨q, rfl, q0, q1, hd, hg⟩
          have L4 := Lib.hid (L3.out.call hg)
          have Q4 := Lib.hid (Q3.out.call hlt hd hg)
          clear hd hg
          refine ⟨_, rfl, ?_⟩
          refine hK.out _ _ trivial (fun hHeld => ?_)
          simp only [Act.put, List.setIfInBounds_toArray, List.set_cons_zero, List.set_cons_succ]
          clear hK K
          refine take_lit (i := 7) (v := .int .i64 (1 + q)) 13 rfl rfl (by kernel_rfl) (by kernel_rfl) (by kernel_rfl) (fun _ _ _ h => h) (Or.inl ⟨by rfl, fun w hSw => by go_simp; try (simp [IntKind.wrap, IntKind.signed, IntKind.bits]; omega)⟩) (by trivial) ?_
          simp only [Act.put, List.setIfInBounds_toArray, List.set_cons_zero, List.set_cons_succ]
          refine wpAnyH_ready (rs := [4, 9, 11]) (by kernel_rfl) (by simp) ?_
          refine AllReadyH.cons rfl (fun K hK => ?_) (AllReadyH.cons rfl (fun K hK => ?_) (AllReadyH.cons rfl (fun K hK => ?_) (AllReadyH.nil)))
          · have hc := (cells_of L4.out.k i).trans (ctxRow_at i hi)
            have hv := ctxRow_bd i
            generalize ctxRow.getD i 0 = v at hc hv
            refine step_run2 10 rfl (.int .i64 v) W4 (by kernel_rfl) (by go_simp) ?_
            refine hK.out _ _ trivial (fun hHeld => ?_)
            simp only [Act.put, List.setIfInBounds_toArray, List.set_cons_zero, List.set_cons_succ]
            clear hK K hc
            refine wpAnyH_ready (rs := [9, 11]) (by kernel_rfl) (by simp) ?_
            refine AllReadyH.cons rfl (fun K hK => ?_) (AllReadyH.cons rfl (fun K hK => ?_) (AllReadyH.nil))
            · skip
              refine step_call 15 rfl 46 #[.pointer (some ⟨g, 0, none⟩), .int .i64 12] (by kernel_rfl) (by kernel_rfl) (bytes_in g 12 W4 Q4.out.d (by omega)) ?_
              rintro e W6 ⟨o, m, c, zs, rfl, hm, mk, ho, hd, hg⟩
              replace ho := Lib.hid ho
              have M6 := Lib.hid (mk.mono (B' := w.heap.size + 1) Q4.out.zr.lt)
              have L6 := Lib.hid (L4.out.call hg)
              have Q6 := Lib.hid (Q4.out.call hlt hd hg)
              clear hd hg mk
              refine ⟨_, rfl, ?_⟩
              refine hK.out _ _ trivial (fun hHeld => ?_)
              simp only [Act.put, List.setIfInBounds_toArray, List.set_cons_zero, List.set_cons_succ]
              clear hK K
              refine take_lit (i := 10) (v := sm0V v (1 + q) o m c) 16 rfl rfl (by kernel_rfl) (by kernel_rfl) (by kernel_rfl) (fun _ _ _ h => h) (Or.inl ⟨by rfl, fun w _ => by kernel_rfl⟩) (by trivial) ?_
              simp only [Act.put, List.setIfInBounds_toArray, List.set_cons_zero, List.set_cons_succ]
              refine wpAnyH_ready (rs := [11]) (by kernel_rfl) (by simp) ?_
              refine AllReadyH.cons rfl (fun K hK => ?_) (AllReadyH.nil)
              · skip
                have Q7 := Lib.hid (Q6.out.alloc (.cells z26 28))
                have L7 := Lib.hid (L6.out.alloc (.cells z26 28))
                have M7 := Lib.hid (M6.out.alloc (.cells z26 28))
                have Zs7 := Lib.hid (OB.new (g := g) (W := W6) 28 z26 Q6.out.d.lt)
                have hB : w.heap.size < W6.heap.size := Q6.out.zr.lt
                have nB : ∀ x, o = some x → x.block ≠ W6.heap.size := fun x e => by have := (M6.out.own_ge x.block (by rw [e]; rfl)).2; omega
                refine step_run2 3 rfl (.pointer (some ⟨W6.heap.size, 0, none⟩)) (W6.alloc (.cells z26 28)) (by kernel_rfl) (by kernel_rfl) ?_
                refine hK.out _ _ trivial (fun hHeld => ?_)
                simp only [Act.put, List.setIfInBounds_toArray, List.set_cons_zero, List.set_cons_succ]
                clear hK K
                generalize hW7 : W6.alloc (.cells z26 28) = W7 at Q7 L7 Zs7 M7 ⊢
                clear hW7
                refine wpAnyH_ready (rs := [12]) (by kernel_rfl) (by simp) ?_
                refine AllReadyH.cons rfl (ready_store (n := 26) (by kernel_rfl) rfl (.tmp 3) (.tmp 16) rfl rfl rfl Zs7.out.k rfl rfl info_sm (by simp [Value.oneCell']) ?_) AllReadyH.nil
                intro W8 K9 G9
                have Zk := Lib.hid (show Blk 28 W8 _ _ from K9)
                have Q8 := Lib.hid (Q7.out.row G9 Zs7.out.n hB)
                have M8 := Lib.hid (M7.out.keepRow G9 (own_ne nB))
                refine ⟨trivial, fun hHeld => ?_⟩
                clear K9 G9
                refine wpAnyH_done (by kernel_rfl) ?_ _
                refine NoPanic.normal ?_
                go_wp2_with fail
                go_meet
                exact ⟨_, _, ⟨v, 1 + q, 0, 0, 0, 0, 0, ⟨0, 0, 0, 0, 0, 0, 0, 0, 0, 0, 0, 0, 0, 0, 0⟩, 0, 0, 0, o, m, c, zs⟩, rfl, rfl, ⟨Q8.out, Zk.out, ⟨M8.out, ho.out, hm, nB⟩, hB⟩, ⟨hv, by dsimp only; omega, rfl, rfl, rfl, rfl, rfl, rfl, rfl, rfl, rfl⟩⟩
            · skip
              have Q6 := Lib.hid (Q4.out.alloc (.cells z26 28))
              have L6 := Lib.hid (L4.out.alloc (.cells z26 28))
              have Zs6 := Lib.hid (OB.new (g := g) (W := W4) 28 z26 Q4.out.d.lt)
              have hB : w.heap.size < W4.heap.size := Q4.out.zr.lt
              refine step_run2 3 rfl (.pointer (some ⟨W4.heap.size, 0, none⟩)) (W4.alloc (.cells z26 28)) (by kernel_rfl) (by kernel_rfl) ?_
              refine hK.out _ _ trivial (fun hHeld => ?_)
              simp only [Act.put, List.setIfInBounds_toArray, List.set_cons_zero, List.set_cons_succ]
              clear hK K
              generalize hW6 : W4.alloc (.cells z26 28) = W6 at Q6 L6 Zs6 ⊢
              clear hW6
              refine wpAnyH_ready (rs := [9]) (by kernel_rfl) (by simp) ?_
              refine AllReadyH.cons rfl (fun K hK => ?_) (AllReadyH.nil)
              · skip
                refine step_call 15 rfl 46 #[.pointer (some ⟨g, 0, none⟩), .int .i64 12] (by kernel_rfl) (by kernel_rfl) (bytes_in g 12 W6 Q6.out.d (by omega)) ?_
                rintro e W7 ⟨o, m, c, zs, rfl, hm, mk, ho, hd, hg⟩
                replace ho := Lib.hid ho
                have nB : ∀ x, o = some x → x.block ≠ W4.heap.size := fun x e => by have h1 := (mk.own_ge x.block (by rw [e]; rfl)).1; have h2 := Zs6.out.k.lt; omega
                have M7 := Lib.hid (mk.mono (B' := w.heap.size + 1) Q6.out.zr.lt)
                have L7 := Lib.hid (L6.out.call hg)
                have Zs7 := Lib.hid (Zs6.out.call hg)
                have Q7 := Lib.hid (Q6.out.call hlt hd hg)
                clear hd hg mk
                refine ⟨_, rfl, ?_⟩
                refine hK.out _ _ trivial (fun hHeld => ?_)
                simp only [Act.put, List.setIfInBounds_toArray, List.set_cons_zero, List.set_cons_succ]
                clear hK K
                refine take_lit (i := 10) (v := sm0V v (1 + q) o m c) 16 rfl rfl (by kernel_rfl) (by kernel_rfl) (by kernel_rfl) (fun _ _ _ h => h) (Or.inl ⟨by rfl, fun w _ => by kernel_rfl⟩) (by trivial) ?_
                simp only [Act.put, List.setIfInBounds_toArray, List.set_cons_zero, List.set_cons_succ]
                refine wpAnyH_ready (rs := [12]) (by kernel_rfl) (by simp) ?_
                refine AllReadyH.cons rfl (ready_store (n := 26) (by kernel_rfl) rfl (.tmp 3) (.tmp 16) rfl rfl rfl Zs7.out.k rfl rfl info_sm (by simp [Value.oneCell']) ?_) AllReadyH.nil
                intro W8 K9 G9
                have Zk := Lib.hid (show Blk 28 W8 _ _ from K9)
                have Q8 := Lib.hid (Q7.out.row G9 Zs7.out.n hB)
                have M8 := Lib.hid (M7.out.keepRow G9 (own_ne nB))
                refine ⟨trivial, fun hHeld => ?_⟩
                clear K9 G9
                refine wpAnyH_done (by kernel_rfl) ?_ _
                refine NoPanic.normal ?_
                go_wp2_with fail
                go_meet
                exact ⟨_, _, ⟨v, 1 + q, 0, 0, 0, 0, 0, ⟨0, 0, 0, 0, 0, 0, 0, 0, 0, 0, 0, 0, 0, 0, 0⟩, 0, 0, 0, o, m, c, zs⟩, rfl, rfl, ⟨Q8.out, Zk.out, ⟨M8.out, ho.out, hm, nB⟩, hB⟩, ⟨hv, by dsimp only; omega, rfl, rfl, rfl, rfl, rfl, rfl, rfl, rfl, rfl⟩⟩
          · skip
            refine step_call 15 rfl 46 #[.pointer (some ⟨g, 0, none⟩), .int .i64 12] (by kernel_rfl) (by kernel_rfl) (bytes_in g 12 W4 Q4.out.d (by omega)) ?_
            rintro e W5 ⟨o, m, c, zs, rfl, hm, mk, ho, hd, hg⟩
            replace ho := Lib.hid ho
            have M5 := Lib.hid (mk.mono (B' := w.heap.size + 1) Q4.out.zr.lt)
            have L5 := Lib.hid (L4.out.call hg)
            have Q5 := Lib.hid (Q4.out.call hlt hd hg)
            clear hd hg mk
            refine ⟨_, rfl, ?_⟩
            refine hK.out _ _ trivial (fun hHeld => ?_)
            simp only [Act.put, List.setIfInBounds_toArray, List.set_cons_zero, List.set_cons_succ]
            clear hK K
            refine wpAnyH_ready (rs := [4, 11]) (by kernel_rfl) (by simp) ?_
            refine AllReadyH.cons rfl (fun K hK => ?_) (AllReadyH.cons rfl (fun K hK => ?_) (AllReadyH.nil))
            · have hc := (cells_of L5.out.k i).trans (ctxRow_at i hi)
              have hv := ctxRow_bd i
              generalize ctxRow.getD i 0 = v at hc hv
              refine step_run2 10 rfl (.int .i64 v) W5 (by kernel_rfl) (by go_simp) ?_
              refine hK.out _ _ trivial (fun hHeld => ?_)
              simp only [Act.put, List.setIfInBounds_toArray, List.set_cons_zero, List.set_cons_succ]
              clear hK K hc
              refine take_lit (i := 10) (v := sm0V v (1 + q) o m c) 16 rfl rfl (by kernel_rfl) (by kernel_rfl) (by kernel_rfl) (fun _ _ _ h => h) (Or.inl ⟨by rfl, fun w _ => by kernel_rfl⟩) (by trivial) ?_
              simp only [Act.put, List.setIfInBounds_toArray, List.set_cons_zero, List.set_cons_succ]
              refine wpAnyH_ready (rs := [11]) (by kernel_rfl) (by simp) ?_
              refine AllReadyH.cons rfl (fun K hK => ?_) (AllReadyH.nil)
              · skip
                have Q7 := Lib.hid (Q5.out.alloc (.cells z26 28))
                have L7 := Lib.hid (L5.out.alloc (.cells z26 28))
                have M7 := Lib.hid (M5.out.alloc (.cells z26 28))
                have Zs7 := Lib.hid (OB.new (g := g) (W := W5) 28 z26 Q5.out.d.lt)
                have hB : w.heap.size < W5.heap.size := Q5.out.zr.lt
                have nB : ∀ x, o = some x → x.block ≠ W5.heap.size := fun x e => by have := (M5.out.own_ge x.block (by rw [e]; rfl)).2; omega
                refine step_run2 3 rfl (.pointer (some ⟨W5.heap.size, 0, none⟩)) (W5.alloc (.cells z26 28)) (by kernel_rfl) (by kernel_rfl) ?_
                refine hK.out _ _ trivial (fun hHeld => ?_)
                simp only [Act.put, List.setIfInBounds_toArray, List.set_cons_zero, List.set_cons_succ]
                clear hK K
                generalize hW7 : W5.alloc (.cells z26 28) = W7 at Q7 L7 Zs7 M7 ⊢
                clear hW7
                refine wpAnyH_ready (rs := [12]) (by kernel_rfl) (by simp) ?_
                refine AllReadyH.cons rfl (ready_store (n := 26) (by kernel_rfl) rfl (.tmp 3) (.tmp 16) rfl rfl rfl Zs7.out.k rfl rfl info_sm (by simp [Value.oneCell']) ?_) AllReadyH.nil
                intro W8 K9 G9
                have Zk := Lib.hid (show Blk 28 W8 _ _ from K9)
                have Q8 := Lib.hid (Q7.out.row G9 Zs7.out.n hB)
                have M8 := Lib.hid (M7.out.keepRow G9 (own_ne nB))
                refine ⟨trivial, fun hHeld => ?_⟩
                clear K9 G9
                refine wpAnyH_done (by kernel_rfl) ?_ _
                refine NoPanic.normal ?_
                go_wp2_with fail
                go_meet
                exact ⟨_, _, ⟨v, 1 + q, 0, 0, 0, 0, 0, ⟨0, 0, 0, 0, 0, 0, 0, 0, 0, 0, 0, 0, 0, 0, 0⟩, 0, 0, 0, o, m, c, zs⟩, rfl, rfl, ⟨Q8.out, Zk.out, ⟨M8.out, ho.out, hm, nB⟩, hB⟩, ⟨hv, by dsimp only; omega, rfl, rfl, rfl, rfl, rfl, rfl, rfl, rfl, rfl⟩⟩
            · skip
              have Q6 := Lib.hid (Q5.out.alloc (.cells z26 28))
              have L6 := Lib.hid (L5.out.alloc (.cells z26 28))
              have M6 := Lib.hid (M5.out.alloc (.cells z26 28))
              have Zs6 := Lib.hid (OB.new (g := g) (W := W5) 28 z26 Q5.out.d.lt)
              have hB : w.heap.size < W5.heap.size := Q5.out.zr.lt
              have nB : ∀ x, o = some x → x.block ≠ W5.heap.size := fun x e => by have := (M5.out.own_ge x.block (by rw [e]; rfl)).2; omega
              refine step_run2 3 rfl (.pointer (some ⟨W5.heap.size, 0, none⟩)) (W5.alloc (.cells z26 28)) (by kernel_rfl) (by kernel_rfl) ?_
              refine hK.out _ _ trivial (fun hHeld => ?_)
              simp only [Act.put, List.setIfInBounds_toArray, List.set_cons_zero, List.set_cons_succ]
              clear hK K
              generalize hW6 : W5.alloc (.cells z26 28) = W6 at Q6 L6 Zs6 M6 ⊢
              clear hW6
              refine wpAnyH_ready (rs := [4]) (by kernel_rfl) (by simp) ?_
              refine AllReadyH.cons rfl (fun K hK => ?_) (AllReadyH.nil)
              · have hc := (cells_of L6.out.k i).trans (ctxRow_at i hi)
                have hv := ctxRow_bd i
                generalize ctxRow.getD i 0 = v at hc hv
                refine step_run2 10 rfl (.int .i64 v) W6 (by kernel_rfl) (by go_simp) ?_
                refine hK.out _ _ trivial (fun hHeld => ?_)
                simp only [Act.put, List.setIfInBounds_toArray, List.set_cons_zero, List.set_cons_succ]
                clear hK K hc
                refine take_lit (i := 10) (v := sm0V v (1 + q) o m c) 16 rfl rfl (by kernel_rfl) (by kernel_rfl) (by kernel_rfl) (fun _ _ _ h => h) (Or.inl ⟨by rfl, fun w _ => by kernel_rfl⟩) (by trivial) ?_
                simp only [Act.put, List.setIfInBounds_toArray, List.set_cons_zero, List.set_cons_succ]
                refine wpAnyH_ready (rs := [12]) (by kernel_rfl) (by simp) ?_
                refine AllReadyH.cons rfl (ready_store (n := 26) (by kernel_rfl) rfl (.tmp 3) (.tmp 16) rfl rfl rfl Zs6.out.k rfl rfl info_sm (by simp [Value.oneCell']) ?_) AllReadyH.nil
                intro W8 K9 G9
                have Zk := Lib.hid (show Blk 28 W8 _ _ from K9)
                have Q8 := Lib.hid (Q6.out.row G9 Zs6.out.n hB)
                have M8 := Lib.hid (M6.out.keepRow G9 (own_ne nB))
                refine ⟨trivial, fun hHeld => ?_⟩
                clear K9 G9
                refine wpAnyH_done (by kernel_rfl) ?_ _
                refine NoPanic.normal ?_
                go_wp2_with fail
                go_meet
                exact ⟨_, _, ⟨v, 1 + q, 0, 0, 0, 0, 0, ⟨0, 0, 0, 0, 0, 0, 0, 0, 0, 0, 0, 0, 0, 0, 0⟩, 0, 0, 0, o, m, c, zs⟩, rfl, rfl, ⟨Q8.out, Zk.out, ⟨M8.out, ho.out, hm, nB⟩, hB⟩, ⟨hv, by dsimp only; omega, rfl, rfl, rfl, rfl, rfl, rfl, rfl, rfl, rfl⟩⟩
          · skip
            have Q5 := Lib.hid (Q4.out.alloc (.cells z26 28))
            have L5 := Lib.hid (L4.out.alloc (.cells z26 28))
            have Zs5 := Lib.hid (OB.new (g := g) (W := W4) 28 z26 Q4.out.d.lt)
            have hB : w.heap.size < W4.heap.size := Q4.out.zr.lt
            refine step_run2 3 rfl (.pointer (some ⟨W4.heap.size, 0, none⟩)) (W4.alloc (.cells z26 28)) (by kernel_rfl) (by kernel_rfl) ?_
            refine hK.out _ _ trivial (fun hHeld => ?_)
            simp only [Act.put, List.setIfInBounds_toArray, List.set_cons_zero, List.set_cons_succ]
            clear hK K
            generalize hW5 : W4.alloc (.cells z26 28) = W5 at Q5 L5 Zs5 ⊢
            clear hW5
            refine wpAnyH_ready (rs := [4, 9]) (by kernel_rfl) (by simp) ?_
            refine AllReadyH.cons rfl (fun K hK => ?_) (AllReadyH.cons rfl (fun K hK => ?_) (AllReadyH.nil))
            · have hc := (cells_of L5.out.k i).trans (ctxRow_at i hi)
              have hv := ctxRow_bd i
              generalize ctxRow.getD i 0 = v at hc hv
              refine step_run2 10 rfl (.int .i64 v) W5 (by kernel_rfl) (by go_simp) ?_
              refine hK.out _ _ trivial (fun hHeld => ?_)
              simp only [Act.put, List.setIfInBounds_toArray, List.set_cons_zero, List.set_cons_succ]
              clear hK K hc
              refine wpAnyH_ready (rs := [9]) (by kernel_rfl) (by simp) ?_
              refine AllReadyH.cons rfl (fun K hK => ?_) (AllReadyH.nil)
              · skip
                refine step_call 15 rfl 46 #[.pointer (some ⟨g, 0, none⟩), .int .i64 12] (by kernel_rfl) (by kernel_rfl) (bytes_in g 12 W5 Q5.out.d (by omega)) ?_
                rintro e W7 ⟨o, m, c, zs, rfl, hm, mk, ho, hd, hg⟩
                replace ho := Lib.hid ho
                have nB : ∀ x, o = some x → x.block ≠ W4.heap.size := fun x e => by have h1 := (mk.own_ge x.block (by rw [e]; rfl)).1; have h2 := Zs5.out.k.lt; omega
                have M7 := Lib.hid (mk.mono (B' := w.heap.size + 1) Q5.out.zr.lt)
                have L7 := Lib.hid (L5.out.call hg)
                have Zs7 := Lib.hid (Zs5.out.call hg)
                have Q7 := Lib.hid (Q5.out.call hlt hd hg)
                clear hd hg mk
                refine ⟨_, rfl, ?_⟩
                refine hK.out _ _ trivial (fun hHeld => ?_)
                simp only [Act.put, List.setIfInBounds_toArray, List.set_cons_zero, List.set_cons_succ]
                clear hK K
                refine take_lit (i := 10) (v := sm0V v (1 + q) o m c) 16 rfl rfl (by kernel_rfl) (by kernel_rfl) (by kernel_rfl) (fun _ _ _ h => h) (Or.inl ⟨by rfl, fun w _ => by kernel_rfl⟩) (by trivial) ?_
                simp only [Act.put, List.setIfInBounds_toArray, List.set_cons_zero, List.set_cons_succ]
                refine wpAnyH_ready (rs := [12]) (by kernel_rfl) (by simp) ?_
                refine AllReadyH.cons rfl (ready_store (n := 26) (by kernel_rfl) rfl (.tmp 3) (.tmp 16) rfl rfl rfl Zs7.out.k rfl rfl info_sm (by simp [Value.oneCell']) ?_) AllReadyH.nil
                intro W8 K9 G9
                have Zk := Lib.hid (show Blk 28 W8 _ _ from K9)
                have Q8 := Lib.hid (Q7.out.row G9 Zs7.out.n hB)
                have M8 := Lib.hid (M7.out.keepRow G9 (own_ne nB))
                refine ⟨trivial, fun hHeld => ?_⟩
                clear K9 G9
                refine wpAnyH_done (by kernel_rfl) ?_ _
                refine NoPanic.normal ?_
                go_wp2_with fail
                go_meet
                exact ⟨_, _, ⟨v, 1 + q, 0, 0, 0, 0, 0, ⟨0, 0, 0, 0, 0, 0, 0, 0, 0, 0, 0, 0, 0, 0, 0⟩, 0, 0, 0, o, m, c, zs⟩, rfl, rfl, ⟨Q8.out, Zk.out, ⟨M8.out, ho.out, hm, nB⟩, hB⟩, ⟨hv, by dsimp only; omega, rfl, rfl, rfl, rfl, rfl, rfl, rfl, rfl, rfl⟩⟩
            · skip
              refine step_call 15 rfl 46 #[.pointer (some ⟨g, 0, none⟩), .int .i64 12] (by kernel_rfl) (by kernel_rfl) (bytes_in g 12 W5 Q5.out.d (by omega)) ?_
              rintro e W6 ⟨o, m, c, zs, rfl, hm, mk, ho, hd, hg⟩
              replace ho := Lib.hid ho
              have nB : ∀ x, o = some x → x.block ≠ W4.heap.size := fun x e => by have h1 := (mk.own_ge x.block (by rw [e]; rfl)).1; have h2 := Zs5.out.k.lt; omega
              have M6 := Lib.hid (mk.mono (B' := w.heap.size + 1) Q5.out.zr.lt)
              have L6 := Lib.hid (L5.out.call hg)
              have Zs6 := Lib.hid (Zs5.out.call hg)
              have Q6 := Lib.hid (Q5.out.call hlt hd hg)
              clear hd hg mk
              refine ⟨_, rfl, ?_⟩
              refine hK.out _ _ trivial (fun hHeld => ?_)
              simp only [Act.put, List.setIfInBounds_toArray, List.set_cons_zero, List.set_cons_succ]
              clear hK K
              refine wpAnyH_ready (rs := [4]) (by kernel_rfl) (by simp) ?_
              refine AllReadyH.cons rfl (fun K hK => ?_) (AllReadyH.nil)
              · have hc := (cells_of L6.out.k i).trans (ctxRow_at i hi)
                have hv := ctxRow_bd i
                generalize ctxRow.getD i 0 = v at hc hv
                refine step_run2 10 rfl (.int .i64 v) W6 (by kernel_rfl) (by go_simp) ?_
                refine hK.out _ _ trivial (fun hHeld => ?_)
                simp only [Act.put, List.setIfInBounds_toArray, List.set_cons_zero, List.set_cons_succ]
                clear hK K hc
                refine take_lit (i := 10) (v := sm0V v (1 + q) o m c) 16 rfl rfl (by kernel_rfl) (by kernel_rfl) (by kernel_rfl) (fun _ _ _ h => h) (Or.inl ⟨by rfl, fun w _ => by kernel_rfl⟩) (by trivial) ?_
                simp only [Act.put, List.setIfInBounds_toArray, List.set_cons_zero, List.set_cons_succ]
                refine wpAnyH_ready (rs := [12]) (by kernel_rfl) (by simp) ?_
                refine AllReadyH.cons rfl (ready_store (n := 26) (by kernel_rfl) rfl (.tmp 3) (.tmp 16) rfl rfl rfl Zs6.out.k rfl rfl info_sm (by simp [Value.oneCell']) ?_) AllReadyH.nil
                intro W8 K9 G9
                have Zk := Lib.hid (show Blk 28 W8 _ _ from K9)
                have Q8 := Lib.hid (Q6.out.row G9 Zs6.out.n hB)
                have M8 := Lib.hid (M6.out.keepRow G9 (own_ne nB))
                refine ⟨trivial, fun hHeld => ?_⟩
                clear K9 G9
                refine wpAnyH_done (by kernel_rfl) ?_ _
                refine NoPanic.normal ?_
                go_wp2_with fail
                go_meet
                exact ⟨_, _, ⟨v, 1 + q, 0, 0, 0, 0, 0, ⟨0, 0, 0, 0, 0, 0, 0, 0, 0, 0, 0, 0, 0, 0, 0⟩, 0, 0, 0, o, m, c, zs⟩, rfl, rfl, ⟨Q8.out, Zk.out, ⟨M8.out, ho.out, hm, nB⟩, hB⟩, ⟨hv, by dsimp only; omega, rfl, rfl, rfl, rfl, rfl, rfl, rfl, rfl, rfl⟩⟩
        · skip
          have Q4 := Lib.hid (Q3.out.alloc (.cells z26 28))
          have L4 := Lib.hid (L3.out.alloc (.cells z26 28))
          have Zs4 := Lib.hid (OB.new (g := g) (W := W3) 28 z26 Q3.out.d.lt)
          have hB : w.heap.size < W3.heap.size := Q3.out.zr.lt
          refine step_run2 3 rfl (.pointer (some ⟨W3.heap.size, 0, none⟩)) (W3.alloc (.cells z26 28)) (by kernel_rfl) (by kernel_rfl) ?_
          refine hK.out _ _ trivial (fun hHeld => ?_)
          simp only [Act.put, List.setIfInBounds_toArray, List.set_cons_zero, List.set_cons_succ]
          clear hK K
          generalize hW4 : W3.alloc (.cells z26 28) = W4 at Q4 L4 Zs4 ⊢
          clear hW4
          refine wpAnyH_ready (rs := [4, 6]) (by kernel_rfl) (by simp) ?_
          refine AllReadyH.cons rfl (fun K hK => ?_) (AllReadyH.cons rfl (fun K hK => ?_) (AllReadyH.nil))
          · have hc := (cells_of L4.out.k i).trans (ctxRow_at i hi)
            have hv := ctxRow_bd i
            generalize ctxRow.getD i 0 = v at hc hv
            refine step_run2 10 rfl (.int .i64 v) W4 (by kernel_rfl) (by go_simp) ?_
            refine hK.out _ _ trivial (fun hHeld => ?_)
            simp only [Act.put, List.setIfInBounds_toArray, List.set_cons_zero, List.set_cons_succ]
            clear hK K hc
            refine wpAnyH_ready (rs := [6]) (by kernel_rfl) (by simp) ?_
            refine AllReadyH.cons rfl (fun K hK => ?_) (AllReadyH.nil)
            · skip
              refine step_call 12 rfl 26 #[.pointer (some ⟨g, 0, none⟩), .int .i64 6] (by kernel_rfl) (by kernel_rfl) (next_in g 6 _ Q4.out.d (by omega) (by omega)) ?_
              rintro e W6 ⟨q, rfl, q0, q1, hd, hg⟩
              have L6 := Lib.hid (L4.out.call hg)
              have Zs6 := Lib.hid (Zs4.out.call hg)
              have Q6 := Lib.hid (Q4.out.call hlt hd hg)
              clear hd hg
              refine ⟨_, rfl, ?_⟩
              refine hK.out _ _ trivial (fun hHeld => ?_)
              simp only [Act.put, List.setIfInBounds_toArray, List.set_cons_zero, List.set_cons_succ]
              clear hK K
              refine take_lit (i := 7) (v := .int .i64 (1 + q)) 13 rfl rfl (by kernel_rfl) (by kernel_rfl) (by kernel_rfl) (fun _ _ _ h => h) (Or.inl ⟨by rfl, fun w hSw => by go_simp; try (simp [IntKind.wrap, IntKind.signed, IntKind.bits]; omega)⟩) (by trivial) ?_
              simp only [Act.put, List.setIfInBounds_toArray, List.set_cons_zero, List.set_cons_succ]
              refine wpAnyH_ready (rs := [9]) (by kernel_rfl) (by simp) ?_
              refine AllReadyH.cons rfl (fun K hK => ?_) (AllReadyH.nil)
              · skip
                refine step_call 15 rfl 46 #[.pointer (some ⟨g, 0, none⟩), .int .i64 12] (by kernel_rfl) (by kernel_rfl) (bytes_in g 12 W6 Q6.out.d (by omega)) ?_
                rintro e W7 ⟨o, m, c, zs, rfl, hm, mk, ho, hd, hg⟩
                replace ho := Lib.hid ho
                have nB : ∀ x, o = some x → x.block ≠ W3.heap.size := fun x e => by have h1 := (mk.own_ge x.block (by rw [e]; rfl)).1; have h2 := Zs6.out.k.lt; omega
                have M7 := Lib.hid (mk.mono (B' := w.heap.size + 1) Q6.out.zr.lt)
                have L7 := Lib.hid (L6.out.call hg)
                have Zs7 := Lib.hid (Zs6.out.call hg)
                have Q7 := Lib.hid (Q6.out.call hlt hd hg)
                clear hd hg mk
                refine ⟨_, rfl, ?_⟩
                refine hK.out _ _ trivial (fun hHeld => ?_)
                simp only [Act.put, List.setIfInBounds_toArray, List.set_cons_zero, List.set_cons_succ]
                clear hK K
                refine take_lit (i := 10) (v := sm0V v (1 + q) o m c) 16 rfl rfl (by kernel_rfl) (by kernel_rfl) (by kernel_rfl) (fun _ _ _ h => h) (Or.inl ⟨by rfl, fun w _ => by kernel_rfl⟩) (by trivial) ?_
                simp only [Act.put, List.setIfInBounds_toArray, List.set_cons_zero, List.set_cons_succ]
                refine wpAnyH_ready (rs := [12]) (by kernel_rfl) (by simp) ?_
                refine AllReadyH.cons rfl (ready_store (n := 26) (by kernel_rfl) rfl (.tmp 3) (.tmp 16) rfl rfl rfl Zs7.out.k rfl rfl info_sm (by simp [Value.oneCell']) ?_) AllReadyH.nil
                intro W8 K9 G9
                have Zk := Lib.hid (show Blk 28 W8 _ _ from K9)
                have Q8 := Lib.hid (Q7.out.row G9 Zs7.out.n hB)
                have M8 := Lib.hid (M7.out.keepRow G9 (own_ne nB))
                refine ⟨trivial, fun hHeld => ?_⟩
                clear K9 G9
                refine wpAnyH_done (by kernel_rfl) ?_ _
                refine NoPanic.normal ?_
                go_wp2_with fail
                go_meet
                exact ⟨_, _, ⟨v, 1 + q, 0, 0, 0, 0, 0, ⟨0, 0, 0, 0, 0, 0, 0, 0, 0, 0, 0, 0, 0, 0, 0⟩, 0, 0, 0, o, m, c, zs⟩, rfl, rfl, ⟨Q8.out, Zk.out, ⟨M8.out, ho.out, hm, nB⟩, hB⟩, ⟨hv, by dsimp only; omega, rfl, rfl, rfl, rfl, rfl, rfl, rfl, rfl, rfl⟩⟩
          · skip
            refine step_call 12 rfl 26 #[.pointer (some ⟨g, 0, none⟩), .int .i64 6] (by kernel_rfl) (by kernel_rfl) (next_in g 6 _ Q4.out.d (by omega) (by omega)) ?_
            rintro e W5 ⟨q, rfl, q0, q1, hd, hg⟩
            have L5 := Lib.hid (L4.out.call hg)
            have Zs5 := Lib.hid (Zs4.out.call hg)
            have Q5 := Lib.hid (Q4.out.call hlt hd hg)
            clear hd hg
            refine ⟨_, rfl, ?_⟩
            refine hK.out _ _ trivial (fun hHeld => ?_)
            simp only [Act.put, List.setIfInBounds_toArray, List.set_cons_zero, List.set_cons_succ]
            clear hK K
            refine take_lit (i := 7) (v := .int .i64 (1 + q)) 13 rfl rfl (by kernel_rfl) (by kernel_rfl) (by kernel_rfl) (fun _ _ _ h => h) (Or.inl ⟨by rfl, fun w hSw => by go_simp; try (simp [IntKind.wrap, IntKind.signed, IntKind.bits]; omega)⟩) (by trivial) ?_
            simp only [Act.put, List.setIfInBounds_toArray, List.set_cons_zero, List.set_cons_succ]
            refine wpAnyH_ready (rs := [4, 9]) (by kernel_rfl) (by simp) ?_
            refine AllReadyH.cons rfl (fun K hK => ?_) (AllReadyH.cons rfl (fun K hK => ?_) (AllReadyH.nil))
            · have hc := (cells_of L5.out.k i).trans (ctxRow_at i hi)
              have hv := ctxRow_bd i
              generalize ctxRow.getD i 0 = v at hc hv
              refine step_run2 10 rfl (.int .i64 v) W5 (by kernel_rfl) (by go_simp) ?_
              refine hK.out _ _ trivial (fun hHeld => ?_)
              simp only [Act.put, List.setIfInBounds_toArray, List.set_cons_zero, List.set_cons_succ]
              clear hK K hc
              refine wpAnyH_ready (rs := [9]) (by kernel_rfl) (by simp) ?_
              refine AllReadyH.cons rfl (fun K hK => ?_) (AllReadyH.nil)
              · skip
                refine step_call 15 rfl 46 #[.pointer (some ⟨g, 0, none⟩), .int .i64 12] (by kernel_rfl) (by kernel_rfl) (bytes_in g 12 W5 Q5.out.d (by omega)) ?_
                rintro e W7 ⟨o, m, c, zs, rfl, hm, mk, ho, hd, hg⟩
                replace ho := Lib.hid ho
                have nB : ∀ x, o = some x → x.block ≠ W3.heap.size := fun x e => by have h1 := (mk.own_ge x.block (by rw [e]; rfl)).1; have h2 := Zs5.out.k.lt; omega
                have M7 := Lib.hid (mk.mono (B' := w.heap.size + 1) Q5.out.zr.lt)
                have L7 := Lib.hid (L5.out.call hg)
                have Zs7 := Lib.hid (Zs5.out.call hg)
                have Q7 := Lib.hid (Q5.out.call hlt hd hg)
                clear hd hg mk
                refine ⟨_, rfl, ?_⟩
                refine hK.out _ _ trivial (fun hHeld => ?_)
                simp only [Act.put, List.setIfInBounds_toArray, List.set_cons_zero, List.set_cons_succ]
                clear hK K
                refine take_lit (i := 10) (v := sm0V v (1 + q) o m c) 16 rfl rfl (by kernel_rfl) (by kernel_rfl) (by kernel_rfl) (fun _ _ _ h => h) (Or.inl ⟨by rfl, fun w _ => by kernel_rfl⟩) (by trivial) ?_
                simp only [Act.put, List.setIfInBounds_toArray, List.set_cons_zero, List.set_cons_succ]
                refine wpAnyH_ready (rs := [12]) (by kernel_rfl) (by simp) ?_
                refine AllReadyH.cons rfl (ready_store (n := 26) (by kernel_rfl) rfl (.tmp 3) (.tmp 16) rfl rfl rfl Zs7.out.k rfl rfl info_sm (by simp [Value.oneCell']) ?_) AllReadyH.nil
                intro W8 K9 G9
                have Zk := Lib.hid (show Blk 28 W8 _ _ from K9)
                have Q8 := Lib.hid (Q7.out.row G9 Zs7.out.n hB)
                have M8 := Lib.hid (M7.out.keepRow G9 (own_ne nB))
                refine ⟨trivial, fun hHeld => ?_⟩
                clear K9 G9
                refine wpAnyH_done (by kernel_rfl) ?_ _
                refine NoPanic.normal ?_
                go_wp2_with fail
                go_meet
                exact ⟨_, _, ⟨v, 1 + q, 0, 0, 0, 0, 0, ⟨0, 0, 0, 0, 0, 0, 0, 0, 0, 0, 0, 0, 0, 0, 0⟩, 0, 0, 0, o, m, c, zs⟩, rfl, rfl, ⟨Q8.out, Zk.out, ⟨M8.out, ho.out, hm, nB⟩, hB⟩, ⟨hv, by dsimp only; omega, rfl, rfl, rfl, rfl, rfl, rfl, rfl, rfl, rfl⟩⟩
            · skip
              refine step_call 15 rfl 46 #[.pointer (some ⟨g, 0, none⟩), .int .i64 12] (by kernel_rfl) (by kernel_rfl) (bytes_in g 12 W5 Q5.out.d (by omega)) ?_
              rintro e W6 ⟨o, m, c, zs, rfl, hm, mk, ho, hd, hg⟩
              replace ho := Lib.hid ho
              have nB : ∀ x, o = some x → x.block ≠ W3.heap.size := fun x e => by have h1 := (mk.own_ge x.block (by rw [e]; rfl)).1; have h2 := Zs5.out.k.lt; omega
              have M6 := Lib.hid (mk.mono (B' := w.heap.size + 1) Q5.out.zr.lt)
              have L6 := Lib.hid (L5.out.call hg)
              have Zs6 := Lib.hid (Zs5.out.call hg)
              have Q6 := Lib.hid (Q5.out.call hlt hd hg)
              clear hd hg mk
              refine ⟨_, rfl, ?_⟩
              refine hK.out _ _ trivial (fun hHeld => ?_)
              simp only [Act.put, List.setIfInBounds_toArray, List.set_cons_zero, List.set_cons_succ]
              clear hK K
              refine wpAnyH_ready (rs := [4]) (by kernel_rfl) (by simp) ?_
              refine AllReadyH.cons rfl (fun K hK => ?_) (AllReadyH.nil)
              · have hc := (cells_of L6.out.k i).trans (ctxRow_at i hi)
                have hv := ctxRow_bd i
                generalize ctxRow.getD i 0 = v at hc hv
                refine step_run2 10 rfl (.int .i64 v) W6 (by kernel_rfl) (by go_simp) ?_
                refine hK.out _ _ trivial (fun hHeld => ?_)
                simp only [Act.put, List.setIfInBounds_toArray, List.set_cons_zero, List.set_cons_succ]
                clear hK K hc
                refine take_lit (i := 10) (v := sm0V v (1 + q) o m c) 16 rfl rfl (by kernel_rfl) (by kernel_rfl) (by kernel_rfl) (fun _ _ _ h => h) (Or.inl ⟨by rfl, fun w _ => by kernel_rfl⟩) (by trivial) ?_
                simp only [Act.put, List.setIfInBounds_toArray, List.set_cons_zero, List.set_cons_succ]
                refine wpAnyH_ready (rs := [12]) (by kernel_rfl) (by simp) ?_
                refine AllReadyH.cons rfl (ready_store (n := 26) (by kernel_rfl) rfl (.tmp 3) (.tmp 16) rfl rfl rfl Zs6.out.k rfl rfl info_sm (by simp [Value.oneCell']) ?_) AllReadyH.nil
                intro W8 K9 G9
                have Zk := Lib.hid (show Blk 28 W8 _ _ from K9)
                have Q8 := Lib.hid (Q6.out.row G9 Zs6.out.n hB)
                have M8 := Lib.hid (M6.out.keepRow G9 (own_ne nB))
                refine ⟨trivial, fun hHeld => ?_⟩
                clear K9 G9
                refine wpAnyH_done (by kernel_rfl) ?_ _
                refine NoPanic.normal ?_
                go_wp2_with fail
                go_meet
                exact ⟨_, _, ⟨v, 1 + q, 0, 0, 0, 0, 0, ⟨0, 0, 0, 0, 0, 0, 0, 0, 0, 0, 0, 0, 0, 0, 0⟩, 0, 0, 0, o, m, c, zs⟩, rfl, rfl, ⟨Q8.out, Zk.out, ⟨M8.out, ho.out, hm, nB⟩, hB⟩, ⟨hv, by dsimp only; omega, rfl, rfl, rfl, rfl, rfl, rfl, rfl, rfl, rfl⟩⟩
      · skip
        refine step_call 12 rfl 26 #[.pointer (some ⟨g, 0, none⟩), .int .i64 6] (by kernel_rfl) (by kernel_rfl) (next_in g 6 _ Q2.out.d (by omega) (by omega)) ?_
        rintro e W3 ⟨q, rfl, q0, q1, hd, hg⟩
        have Q3 := Lib.hid (Q2.out.call hlt hd hg)
        clear hd hg
        refine ⟨_, rfl, ?_⟩
        refine hK.out _ _ trivial (fun hHeld => ?_)
        simp only [Act.put, List.setIfInBounds_toArray, List.set_cons_zero, List.set_cons_succ]
        clear hK K
        refine take_lit (i := 7) (v := .int .i64 (1 + q)) 13 rfl rfl (by kernel_rfl) (by kernel_rfl) (by kernel_rfl) (fun _ _ _ h => h) (Or.inl ⟨by rfl, fun w hSw => by go_simp; try (simp [IntKind.wrap, IntKind.signed, IntKind.bits]; omega)⟩) (by trivial) ?_
        simp only [Act.put, List.setIfInBounds_toArray, List.set_cons_zero, List.set_cons_succ]
        refine wpAnyH_ready (rs := [0, 9, 11]) (by kernel_rfl) (by simp) ?_
        refine AllReadyH.cons rfl (fun K hK => ?_) (AllReadyH.cons rfl (fun K hK => ?_) (AllReadyH.cons rfl (fun K hK => ?_) (AllReadyH.nil)))
        · skip
          have Q4 := Lib.hid (Q3.out.alloc (.cells #[.int .i64 0, .int .i64 0, .int .i64 1, .int .i64 15] 3))
          have L4 := Lib.hid (OB.new (g := g) (W := W3) 3 #[.int .i64 0, .int .i64 0, .int .i64 1, .int .i64 15] Q3.out.d.lt)
          refine step_run2 6 rfl (.slice (some ⟨W3.heap.size, 0, none⟩) 4 4) (W3.alloc (.cells #[.int .i64 0, .int .i64 0, .int .i64 1, .int .i64 15] 3)) (by kernel_rfl) (by kernel_rfl) ?_
          refine hK.out _ _ trivial (fun hHeld => ?_)
          simp only [Act.put, List.setIfInBounds_toArray, List.set_cons_zero, List.set_cons_succ]
          clear hK K
          generalize hW4 : W3.alloc (.cells #[.int .i64 0, .int .i64 0, .int .i64 1, .int .i64 15] 3) = W4 at Q4 L4 ⊢
          clear hW4
          refine take_lit (i := 3) (v := .pointer (some ⟨W3.heap.size, i, none⟩)) 9 rfl rfl (by kernel_rfl) (by kernel_rfl) (by kernel_rfl) (fun _ _ _ h => h) (Or.inl ⟨by rfl, fun w hSw => by clear hSw; go_simp; try (intro h9; exact absurd (h9 (by omega)) (by omega))⟩) (by trivial) ?_
          simp only [Act.put, List.setIfInBounds_toArray, List.set_cons_zero, List.set_cons_succ]
          refine wpAnyH_ready (rs := [4, 9, 11]) (by kernel_rfl) (by simp) ?_
          refine AllReadyH.cons rfl (fun K hK => ?_) (AllReadyH.cons rfl (fun K hK => ?_) (AllReadyH.cons rfl (fun K hK => ?_) (AllReadyH.nil)))
          · have hc := (cells_of L4.out.k i).trans (ctxRow_at i hi)
            have hv := ctxRow_bd i
            generalize ctxRow.getD i 0 = v at hc hv
            refine step_run2 10 rfl (.int .i64 v) W4 (by kernel_rfl) (by go_simp) ?_
            refine hK.out _ _ trivial (fun hHeld => ?_)
            simp only [Act.put, List.setIfInBounds_toArray, List.set_cons_zero, List.set_cons_succ]
            clear hK K hc
            refine wpAnyH_ready (rs := [9, 11]) (by kernel_rfl) (by simp) ?_
            refine AllReadyH.cons rfl (fun K hK => ?_) (AllReadyH.cons rfl (fun K hK => ?_) (AllReadyH.nil))
            · skip
              refine step_call 15 rfl 46 #[.pointer (some ⟨g, 0, none⟩), .int .i64 12] (by kernel_rfl) (by kernel_rfl) (bytes_in g 12 W4 Q4.out.d (by omega)) ?_
              rintro e W6 ⟨o, m, c, zs, rfl, hm, mk, ho, hd, hg⟩
              replace ho := Lib.hid ho
              have M6 := Lib.hid (mk.mono (B' := w.heap.size + 1) Q4.out.zr.lt)
              have L6 := Lib.hid (L4.out.call hg)
              have Q6 := Lib.hid (Q4.out.call hlt hd hg)
              clear hd hg mk
              refine ⟨_, rfl, ?_⟩
              refine hK.out _ _ trivial (fun hHeld => ?_)
              simp only [Act.put, List.setIfInBounds_toArray, List.set_cons_zero, List.set_cons_succ]
              clear hK K
              refine take_lit (i := 10) (v := sm0V v (1 + q) o m c) 16 rfl rfl (by kernel_rfl) (by kernel_rfl) (by kernel_rfl) (fun _ _ _ h => h) (Or.inl ⟨by rfl, fun w _ => by kernel_rfl⟩) (by trivial) ?_
              simp only [Act.put, List.setIfInBounds_toArray, List.set_cons_zero, List.set_cons_succ]
              refine wpAnyH_ready (rs := [11]) (by kernel_rfl) (by simp) ?_
              refine AllReadyH.cons rfl (fun K hK => ?_) (AllReadyH.nil)
              · skip
                have Q7 := Lib.hid (Q6.out.alloc (.cells z26 28))
                have L7 := Lib.hid (L6.out.alloc (.cells z26 28))
                have M7 := Lib.hid (M6.out.alloc (.cells z26 28))
                have Zs7 := Lib.hid (OB.new (g := g) (W := W6) 28 z26 Q6.out.d.lt)
                have hB : w.heap.size < W6.heap.size := Q6.out.zr.lt
                have nB : ∀ x, o = some x → x.block ≠ W6.heap.size := fun x e => by have := (M6.out.own_ge x.block (by rw [e]; rfl)).2; omega
                refine step_run2 3 rfl (.pointer (some ⟨W6.heap.size, 0, none⟩)) (W6.alloc (.cells z26 28)) (by kernel_rfl) (by kernel_rfl) ?_
                refine hK.out _ _ trivial (fun hHeld => ?_)
                simp only [Act.put, List.setIfInBounds_toArray, List.set_cons_zero, List.set_cons_succ]
                clear hK K
                generalize hW7 : W6.alloc (.cells z26 28) = W7 at Q7 L7 Zs7 M7 ⊢
                clear hW7
                refine wpAnyH_ready (rs := [12]) (by kernel_rfl) (by simp) ?_
                refine AllReadyH.cons rfl (ready_store (n := 26) (by kernel_rfl) rfl (.tmp 3) (.tmp 16) rfl rfl rfl Zs7.out.k rfl rfl info_sm (by simp [Value.oneCell']) ?_) AllReadyH.nil
                intro W8 K9 G9
                have Zk := Lib.hid (show Blk 28 W8 _ _ from K9)
                have Q8 := Lib.hid (Q7.out.row G9 Zs7.out.n hB)
                have M8 := Lib.hid (M7.out.keepRow G9 (own_ne nB))
                refine ⟨trivial, fun hHeld => ?_⟩
                clear K9 G9
                refine wpAnyH_done (by kernel_rfl) ?_ _
                refine NoPanic.normal ?_
                go_wp2_with fail
                go_meet
                exact ⟨_, _, ⟨v, 1 + q, 0, 0, 0, 0, 0, ⟨0, 0, 0, 0, 0, 0, 0, 0, 0, 0, 0, 0, 0, 0, 0⟩, 0, 0, 0, o, m, c, zs⟩, rfl, rfl, ⟨Q8.out, Zk.out, ⟨M8.out, ho.out, hm, nB⟩, hB⟩, ⟨hv, by dsimp only; omega, rfl, rfl, rfl, rfl, rfl, rfl, rfl, rfl, rfl⟩⟩
            · skip
              have Q6 := Lib.hid (Q4.out.alloc (.cells z26 28))
              have L6 := Lib.hid (L4.out.alloc (.cells z26 28))
              have Zs6 := Lib.hid (OB.new (g := g) (W := W4) 28 z26 Q4.out.d.lt)
              have hB : w.heap.size < W4.heap.size := Q4.out.zr.lt
              refine step_run2 3 rfl (.pointer (some ⟨W4.heap.size, 0, none⟩)) (W4.alloc (.cells z26 28)) (by kernel_rfl) (by kernel_rfl) ?_
              refine hK.out _ _ trivial (fun hHeld => ?_)
              simp only [Act.put, List.setIfInBounds_toArray, List.set_cons_zero, List.set_cons_succ]
              clear hK K
              generalize hW6 : W4.alloc (.cells z26 28) = W6 at Q6 L6 Zs6 ⊢
              clear hW6
              refine wpAnyH_ready (rs := [9]) (by kernel_rfl) (by simp) ?_
              refine AllReadyH.cons rfl (fun K hK => ?_) (AllReadyH.nil)
              · skip
                refine step_call 15 rfl 46 #[.pointer (some ⟨g, 0, none⟩), .int .i64 12] (by kernel_rfl) (by kernel_rfl) (bytes_in g 12 W6 Q6.out.d (by omega)) ?_
                rintro e W7 ⟨o, m, c, zs, rfl, hm, mk, ho, hd, hg⟩
                replace ho := Lib.hid ho
                have nB : ∀ x, o = some x → x.block ≠ W4.heap.size := fun x e => by have h1 := (mk.own_ge x.block (by rw [e]; rfl)).1; have h2 := Zs6.out.k.lt; omega
                have M7 := Lib.hid (mk.mono (B' := w.heap.size + 1) Q6.out.zr.lt)
                have L7 := Lib.hid (L6.out.call hg)
                have Zs7 := Lib.hid (Zs6.out.call hg)
                have Q7 := Lib.hid (Q6.out.call hlt hd hg)
                clear hd hg mk
                refine ⟨_, rfl, ?_⟩
                refine hK.out _ _ trivial (fun hHeld => ?_)
                simp only [Act.put, List.setIfInBounds_toArray, List.set_cons_zero, List.set_cons_succ]
                clear hK K
                refine take_lit (i := 10) (v := sm0V v (1 + q) o m c) 16 rfl rfl (by kernel_rfl) (by kernel_rfl) (by kernel_rfl) (fun _ _ _ h => h) (Or.inl ⟨by rfl, fun w _ => by kernel_rfl⟩) (by trivial) ?_
                simp only [Act.put, List.setIfInBounds_toArray, List.set_cons_zero, List.set_cons_succ]
                refine wpAnyH_ready (rs := [12]) (by kernel_rfl) (by simp) ?_
                refine AllReadyH.cons rfl (ready_store (n := 26) (by kernel_rfl) rfl (.tmp 3) (.tmp 16) rfl rfl rfl Zs7.out.k rfl rfl info_sm (by simp [Value.oneCell']) ?_) AllReadyH.nil
                intro W8 K9 G9
                have Zk := Lib.hid (show Blk 28 W8 _ _ from K9)
                have Q8 := Lib.hid (Q7.out.row G9 Zs7.out.n hB)
                have M8 := Lib.hid (M7.out.keepRow G9 (own_ne nB))
                refine ⟨trivial, fun hHeld => ?_⟩
                clear K9 G9
                refine wpAnyH_done (by kernel_rfl) ?_ _
                refine NoPanic.normal ?_
                go_wp2_with fail
                go_meet
                exact ⟨_, _, ⟨v, 1 + q, 0, 0, 0, 0, 0, ⟨0, 0, 0, 0, 0, 0, 0, 0, 0, 0, 0, 0, 0, 0, 0⟩, 0, 0, 0, o, m, c, zs⟩, rfl, rfl, ⟨Q8.out, Zk.out, ⟨M8.out, ho.out, hm, nB⟩, hB⟩, ⟨hv, by dsimp only; omega, rfl, rfl, rfl, rfl, rfl, rfl, rfl, rfl, rfl⟩⟩
          · skip
            refine step_call 15 rfl 46 #[.pointer (some ⟨g, 0, none⟩), .int .i64 12] (by kernel_rfl) (by kernel_rfl) (bytes_in g 12 W4 Q4.out.d (by omega)) ?_
            rintro e W5 ⟨o, m, c, zs, rfl, hm, mk, ho, hd, hg⟩
            replace ho := Lib.hid ho
            have M5 := Lib.hid (mk.mono (B' := w.heap.size + 1) Q4.out.zr.lt)
            have L5 := Lib.hid (L4.out.call hg)
            have Q5 := Lib.hid (Q4.out.call hlt hd hg)
            clear hd hg mk
            refine ⟨_, rfl, ?_⟩
            refine hK.out _ _ trivial (fun hHeld => ?_)
            simp only [Act.put, List.setIfInBounds_toArray, List.set_cons_zero, List.set_cons_succ]
            clear hK K
            refine wpAnyH_ready (rs := [4, 11]) (by kernel_rfl) (by simp) ?_
            refine AllReadyH.cons rfl (fun K hK => ?_) (AllReadyH.cons rfl (fun K hK => ?_) (AllReadyH.nil))
            · have hc := (cells_of L5.out.k i).trans (ctxRow_at i hi)
              have hv := ctxRow_bd i
              generalize ctxRow.getD i 0 = v at hc hv
              refine step_run2 10 rfl (.int .i64 v) W5 (by kernel_rfl) (by go_simp) ?_
              refine hK.out _ _ trivial (fun hHeld => ?_)
              simp only [Act.put, List.setIfInBounds_toArray, List.set_cons_zero, List.set_cons_succ]
              clear hK K hc
              refine take_lit (i := 10) (v := sm0V v (1 + q) o m c) 16 rfl rfl (by kernel_rfl) (by kernel_rfl) (by kernel_rfl) (fun _ _ _ h => h) (Or.inl ⟨by rfl, fun w _ => by kernel_rfl⟩) (by trivial) ?_
              simp only [Act.put, List.setIfInBounds_toArray, List.set_cons_zero, List.set_cons_succ]
              refine wpAnyH_ready (rs := [11]) (by kernel_rfl) (by simp) ?_
              refine AllReadyH.cons rfl (fun K hK => ?_) (AllReadyH.nil)
              · skip
                have Q7 := Lib.hid (Q5.out.alloc (.cells z26 28))
                have L7 := Lib.hid (L5.out.alloc (.cells z26 28))
                have M7 := Lib.hid (M5.out.alloc (.cells z26 28))
                have Zs7 := Lib.hid (OB.new (g := g) (W := W5) 28 z26 Q5.out.d.lt)
                have hB : w.heap.size < W5.heap.size := Q5.out.zr.lt
                have nB : ∀ x, o = some x → x.block ≠ W5.heap.size := fun x e => by have := (M5.out.own_ge x.block (by rw [e]; rfl)).2; omega
                refine step_run2 3 rfl (.pointer (some ⟨W5.heap.size, 0, none⟩)) (W5.alloc (.cells z26 28)) (by kernel_rfl) (by kernel_rfl) ?_
                refine hK.out _ _ trivial (fun hHeld => ?_)
                simp only [Act.put, List.setIfInBounds_toArray, List.set_cons_zero, List.set_cons_succ]
                clear hK K
                generalize hW7 : W5.alloc (.cells z26 28) = W7 at Q7 L7 Zs7 M7 ⊢
                clear hW7
                refine wpAnyH_ready (rs := [12]) (by kernel_rfl) (by simp) ?_
                refine AllReadyH.cons rfl (ready_store (n := 26) (by kernel_rfl) rfl (.tmp 3) (.tmp 16) rfl rfl rfl Zs7.out.k rfl rfl info_sm (by simp [Value.oneCell']) ?_) AllReadyH.nil
                intro W8 K9 G9
                have Zk := Lib.hid (show Blk 28 W8 _ _ from K9)
                have Q8 := Lib.hid (Q7.out.row G9 Zs7.out.n hB)
                have M8 := Lib.hid (M7.out.keepRow G9 (own_ne nB))
                refine ⟨trivial, fun hHeld => ?_⟩
                clear K9 G9
                refine wpAnyH_done (by kernel_rfl) ?_ _
                refine NoPanic.normal ?_
                go_wp2_with fail
                go_meet
                exact ⟨_, _, ⟨v, 1 + q, 0, 0, 0, 0, 0, ⟨0, 0, 0, 0, 0, 0, 0, 0, 0, 0, 0, 0, 0, 0, 0⟩, 0, 0, 0, o, m, c, zs⟩, rfl, rfl, ⟨Q8.out, Zk.out, ⟨M8.out, ho.out, hm, nB⟩, hB⟩, ⟨hv, by dsimp only; omega, rfl, rfl, rfl, rfl, rfl, rfl, rfl, rfl, rfl⟩⟩
            · skip
              have Q6 := Lib.hid (Q5.out.alloc (.cells z26 28))
              have L6 := Lib.hid (L5.out.alloc (.cells z26 28))
              have M6 := Lib.hid (M5.out.alloc (.cells z26 28))
              have Zs6 := Lib.hid (OB.new (g := g) (W := W5) 28 z26 Q5.out.d.lt)
              have hB : w.heap.size < W5.heap.size := Q5.out.zr.lt
              have nB : ∀ x, o = some x → x.block ≠ W5.heap.size := fun x e => by have := (M5.out.own_ge x.block (by rw [e]; rfl)).2; omega
              refine step_run2 3 rfl (.pointer (some ⟨W5.heap.size, 0, none⟩)) (W5.alloc (.cells z26 28)) (by kernel_rfl) (by kernel_rfl) ?_
              refine hK.out _ _ trivial (fun hHeld => ?_)
              simp only [Act.put, List.setIfInBounds_toArray, List.set_cons_zero, List.set_cons_succ]
              clear hK K
              generalize hW6 : W5.alloc (.cells z26 28) = W6 at Q6 L6 Zs6 M6 ⊢
              clear hW6
              refine wpAnyH_ready (rs := [4]) (by kernel_rfl) (by simp) ?_
              refine AllReadyH.cons rfl (fun K hK => ?_) (AllReadyH.nil)
              · have hc := (cells_of L6.out.k i).trans (ctxRow_at i hi)
                have hv := ctxRow_bd i
                generalize ctxRow.getD i 0 = v at hc hv
                refine step_run2 10 rfl (.int .i64 v) W6 (by kernel_rfl) (by go_simp) ?_
                refine hK.out _ _ trivial (fun hHeld => ?_)
                simp only [Act.put, List.setIfInBounds_toArray, List.set_cons_zero, List.set_cons_succ]
                clear hK K hc
                refine take_lit (i := 10) (v := sm0V v (1 + q) o m c) 16 rfl rfl (by kernel_rfl) (by kernel_rfl) (by kernel_rfl) (fun _ _ _ h => h) (Or.inl ⟨by rfl, fun w _ => by kernel_rfl⟩) (by trivial) ?_
                simp only [Act.put, List.setIfInBounds_toArray, List.set_cons_zero, List.set_cons_succ]
                refine wpAnyH_ready (rs := [12]) (by kernel_rfl) (by simp) ?_
                refine AllReadyH.cons rfl (ready_store (n := 26) (by kernel_rfl) rfl (.tmp 3) (.tmp 16) rfl rfl rfl Zs6.out.k rfl rfl info_sm (by simp [Value.oneCell']) ?_) AllReadyH.nil
                intro W8 K9 G9
                have Zk := Lib.hid (show Blk 28 W8 _ _ from K9)
                have Q8 := Lib.hid (Q6.out.row G9 Zs6.out.n hB)
                have M8 := Lib.hid (M6.out.keepRow G9 (own_ne nB))
                refine ⟨trivial, fun hHeld => ?_⟩
                clear K9 G9
                refine wpAnyH_done (by kernel_rfl) ?_ _
                refine NoPanic.normal ?_
                go_wp2_with fail
                go_meet
                exact ⟨_, _, ⟨v, 1 + q, 0, 0, 0, 0, 0, ⟨0, 0, 0, 0, 0, 0, 0, 0, 0, 0, 0, 0, 0, 0, 0⟩, 0, 0, 0, o, m, c, zs⟩, rfl, rfl, ⟨Q8.out, Zk.out, ⟨M8.out, ho.out, hm, nB⟩, hB⟩, ⟨hv, by dsimp only; omega, rfl, rfl, rfl, rfl, rfl, rfl, rfl, rfl, rfl⟩⟩
          · skip
            have Q5 := Lib.hid (Q4.out.alloc (.cells z26 28))
            have L5 := Lib.hid (L4.out.alloc (.cells z26 28))
            have Zs5 := Lib.hid (OB.new (g := g) (W := W4) 28 z26 Q4.out.d.lt)
            have hB : w.heap.size < W4.heap.size := Q4.out.zr.lt
            refine step_run2 3 rfl (.pointer (some ⟨W4.heap.size, 0, none⟩)) (W4.alloc (.cells z26 28)) (by kernel_rfl) (by kernel_rfl) ?_
            refine hK.out _ _ trivial (fun hHeld => ?_)
            simp only [Act.put, List.setIfInBounds_toArray, List.set_cons_zero, List.set_cons_succ]
            clear hK K
            generalize hW5 : W4.alloc (.cells z26 28) = W5 at Q5 L5 Zs5 ⊢
            clear hW5
            refine wpAnyH_ready (rs := [4, 9]) (by kernel_rfl) (by simp) ?_
            refine AllReadyH.cons rfl (fun K hK => ?_) (AllReadyH.cons rfl (fun K hK => ?_) (AllReadyH.nil))
            · have hc := (cells_of L5.out.k i).trans (ctxRow_at i hi)
              have hv := ctxRow_bd i
              generalize ctxRow.getD i 0 = v at hc hv
              refine step_run2 10 rfl (.int .i64 v) W5 (by kernel_rfl) (by go_simp) ?_
              refine hK.out _ _ trivial (fun hHeld => ?_)
              simp only [Act.put, List.setIfInBounds_toArray, List.set_cons_zero, List.set_cons_succ]
              clear hK K hc
              refine wpAnyH_ready (rs := [9]) (by kernel_rfl) (by simp) ?_
              refine AllReadyH.cons rfl (fun K hK => ?_) (AllReadyH.nil)
              · skip
                refine step_call 15 rfl 46 #[.pointer (some ⟨g, 0, none⟩), .int .i64 12] (by kernel_rfl) (by kernel_rfl) (bytes_in g 12 W5 Q5.out.d (by omega)) ?_
                rintro e W7 ⟨o, m, c, zs, rfl, hm, mk, ho, hd, hg⟩
                replace ho := Lib.hid ho
                have nB : ∀ x, o = some x → x.block ≠ W4.heap.size := fun x e => by have h1 := (mk.own_ge x.block (by rw [e]; rfl)).1; have h2 := Zs5.out.k.lt; omega
                have M7 := Lib.hid (mk.mono (B' := w.heap.size + 1) Q5.out.zr.lt)
                have L7 := Lib.hid (L5.out.call hg)
                have Zs7 := Lib.hid (Zs5.out.call hg)
                have Q7 := Lib.hid (Q5.out.call hlt hd hg)
                clear hd hg mk
                refine ⟨_, rfl, ?_⟩
                refine hK.out _ _ trivial (fun hHeld => ?_)
                simp only [Act.put, List.setIfInBounds_toArray, List.set_cons_zero, List.set_cons_succ]
                clear hK K
                refine take_lit (i := 10) (v := sm0V v (1 + q) o m c) 16 rfl rfl (by kernel_rfl) (by kernel_rfl) (by kernel_rfl) (fun _ _ _ h => h) (Or.inl ⟨by rfl, fun w _ => by kernel_rfl⟩) (by trivial) ?_
                simp only [Act.put, List.setIfInBounds_toArray, List.set_cons_zero, List.set_cons_succ]
                refine wpAnyH_ready (rs := [12]) (by kernel_rfl) (by simp) ?_
                refine AllReadyH.cons rfl (ready_store (n := 26) (by kernel_rfl) rfl (.tmp 3) (.tmp 16) rfl rfl rfl Zs7.out.k rfl rfl info_sm (by simp [Value.oneCell']) ?_) AllReadyH.nil
                intro W8 K9 G9
                have Zk := Lib.hid (show Blk 28 W8 _ _ from K9)
                have Q8 := Lib.hid (Q7.out.row G9 Zs7.out.n hB)
                have M8 := Lib.hid (M7.out.keepRow G9 (own_ne nB))
                refine ⟨trivial, fun hHeld => ?_⟩
                clear K9 G9
                refine wpAnyH_done (by kernel_rfl) ?_ _
                refine NoPanic.normal ?_
                go_wp2_with fail
                go_meet
                exact ⟨_, _, ⟨v, 1 + q, 0, 0, 0, 0, 0, ⟨0, 0, 0, 0, 0, 0, 0, 0, 0, 0, 0, 0, 0, 0, 0⟩, 0, 0, 0, o, m, c, zs⟩, rfl, rfl, ⟨Q8.out, Zk.out, ⟨M8.out, ho.out, hm, nB⟩, hB⟩, ⟨hv, by dsimp only; omega, rfl, rfl, rfl, rfl, rfl, rfl, rfl, rfl, rfl⟩⟩
            · skip
              refine step_call 15 rfl 46 #[.pointer (some ⟨g, 0, none⟩), .int .i64 12] (by kernel_rfl) (by kernel_rfl) (bytes_in g 12 W5 Q5.out.d (by omega)) ?_
              rintro e W6 ⟨o, m, c, zs, rfl, hm, mk, ho, hd, hg⟩
              replace ho := Lib.hid ho
              have nB : ∀ x, o = some x → x.block ≠ W4.heap.size := fun x e => by have h1 := (mk.own_ge x.block (by rw [e]; rfl)).1; have h2 := Zs5.out.k.lt; omega
              have M6 := Lib.hid (mk.mono (B' := w.heap.size + 1) Q5.out.zr.lt)
              have L6 := Lib.hid (L5.out.call hg)
              have Zs6 := Lib.hid (Zs5.out.call hg)
              have Q6 := Lib.hid (Q5.out.call hlt hd hg)
              clear hd hg mk
              refine ⟨_, rfl, ?_⟩
              refine hK.out _ _ trivial (fun hHeld => ?_)
              simp only [Act.put, List.setIfInBounds_toArray, List.set_cons_zero, List.set_cons_succ]
              clear hK K
              refine wpAnyH_ready (rs := [4]) (by kernel_rfl) (by simp) ?_
              refine AllReadyH.cons rfl (fun K hK => ?_) (AllReadyH.nil)
              · have hc := (cells_of L6.out.k i).trans (ctxRow_at i hi)
                have hv := ctxRow_bd i
                generalize ctxRow.getD i 0 = v at hc hv
                refine step_run2 10 rfl (.int .i64 v) W6 (by kernel_rfl) (by go_simp) ?_
                refine hK.out _ _ trivial (fun hHeld => ?_)
                simp only [Act.put, List.setIfInBounds_toArray, List.set_cons_zero, List.set_cons_succ]
                clear hK K hc
                refine take_lit (i := 10) (v := sm0V v (1 + q) o m c) 16 rfl rfl (by kernel_rfl) (by kernel_rfl) (by kernel_rfl) (fun _ _ _ h => h) (Or.inl ⟨by rfl, fun w _ => by kernel_rfl⟩) (by trivial) ?_
                simp only [Act.put, List.setIfInBounds_toArray, List.set_cons_zero, List.set_cons_succ]
                refine wpAnyH_ready (rs := [12]) (by kernel_rfl) (by simp) ?_
                refine AllReadyH.cons rfl (ready_store (n := 26) (by kernel_rfl) rfl (.tmp 3) (.tmp 16) rfl rfl rfl Zs6.out.k rfl rfl info_sm (by simp [Value.oneCell']) ?_) AllReadyH.nil
                intro W8 K9 G9
                have Zk := Lib.hid (show Blk 28 W8 _ _ from K9)
                have Q8 := Lib.hid (Q6.out.row G9 Zs6.out.n hB)
                have M8 := Lib.hid (M6.out.keepRow G9 (own_ne nB))
                refine ⟨trivial, fun hHeld => ?_⟩
                clear K9 G9
                refine wpAnyH_done (by kernel_rfl) ?_ _
                refine NoPanic.normal ?_
                go_wp2_with fail
                go_meet
                exact ⟨_, _, ⟨v, 1 + q, 0, 0, 0, 0, 0, ⟨0, 0, 0, 0, 0, 0, 0, 0, 0, 0, 0, 0, 0, 0, 0⟩, 0, 0, 0, o, m, c, zs⟩, rfl, rfl, ⟨Q8.out, Zk.out, ⟨M8.out, ho.out, hm, nB⟩, hB⟩, ⟨hv, by dsimp only; omega, rfl, rfl, rfl, rfl, rfl, rfl, rfl, rfl, rfl⟩⟩
        · skip
          refine step_call 15 rfl 46 #[.pointer (some ⟨g, 0, none⟩), .int .i64 12] (by kernel_rfl) (by kernel_rfl) (bytes_in g 12 W3 Q3.out.d (by omega)) ?_
          rintro e W4 ⟨o, m, c, zs, rfl, hm, mk, ho, hd, hg⟩
          replace ho := Lib.hid ho
          have M4 := Lib.hid (mk.mono (B' := w.heap.size + 1) Q3.out.zr.lt)
          have Q4 := Lib.hid (Q3.out.call hlt hd hg)
          clear hd hg mk
          refine ⟨_, rfl, ?_⟩
          refine hK.out _ _ trivial (fun hHeld => ?_)
          simp only [Act.put, List.setIfInBounds_toArray, List.set_cons_zero, List.set_cons_succ]
          clear hK K
          refine wpAnyH_ready (rs := [0, 11]) (by kernel_rfl) (by simp) ?_
          refine AllReadyH.cons rfl (fun K hK => ?_) (AllReadyH.cons rfl (fun K hK => ?_) (AllReadyH.nil))
          · skip
            have Q5 := Lib.hid (Q4.out.alloc (.cells #[.int .i64 0, .int .i64 0, .int .i64 1, .int .i64 15] 3))
            have M5 := Lib.hid (M4.out.alloc (.cells #[.int .i64 0, .int .i64 0, .int .i64 1, .int .i64 15] 3))
            have L5 := Lib.hid (OB.new (g := g) (W := W4) 3 #[.int .i64 0, .int .i64 0, .int .i64 1, .int .i64 15] Q4.out.d.lt)
            refine step_run2 6 rfl (.slice (some ⟨W4.heap.size, 0, none⟩) 4 4) (W4.alloc (.cells #[.int .i64 0, .int .i64 0, .int .i64 1, .int .i64 15] 3)) (by kernel_rfl) (by kernel_rfl) ?_
            refine hK.out _ _ trivial (fun hHeld => ?_)
            simp only [Act.put, List.setIfInBounds_toArray, List.set_cons_zero, List.set_cons_succ]
            clear hK K
            generalize hW5 : W4.alloc (.cells #[.int .i64 0, .int .i64 0, .int .i64 1, .int .i64 15] 3) = W5 at Q5 L5 M5 ⊢
            clear hW5
            refine take_lit (i := 3) (v := .pointer (some ⟨W4.heap.size, i, none⟩)) 9 rfl rfl (by kernel_rfl) (by kernel_rfl) (by kernel_rfl) (fun _ _ _ h => h) (Or.inl ⟨by rfl, fun w hSw => by clear hSw; go_simp; try (intro h9; exact absurd (h9 (by omega)) (by omega))⟩) (by trivial) ?_
            simp only [Act.put, List.setIfInBounds_toArray, List.set_cons_zero, List.set_cons_succ]
            refine wpAnyH_ready (rs := [4, 11]) (by kernel_rfl) (by simp) ?_
            refine AllReadyH.cons rfl (fun K hK => ?_) (AllReadyH.cons rfl (fun K hK => ?_) (AllReadyH.nil))
            · have hc := (cells_of L5.out.k i).trans (ctxRow_at i hi)
              have hv := ctxRow_bd i
              generalize ctxRow.getD i 0 = v at hc hv
              refine step_run2 10 rfl (.int .i64 v) W5 (by kernel_rfl) (by go_simp) ?_
              refine hK.out _ _ trivial (fun hHeld => ?_)
              simp only [Act.put, List.setIfInBounds_toArray, List.set_cons_zero, List.set_cons_succ]
              clear hK K hc
              refine take_lit (i := 10) (v := sm0V v (1 + q) o m c) 16 rfl rfl (by kernel_rfl) (by kernel_rfl) (by kernel_rfl) (fun _ _ _ h => h) (Or.inl ⟨by rfl, fun w _ => by kernel_rfl⟩) (by trivial) ?_
              simp only [Act.put, List.setIfInBounds_toArray, List.set_cons_zero, List.set_cons_succ]
              refine wpAnyH_ready (rs := [11]) (by kernel_rfl) (by simp) ?_
              refine AllReadyH.cons rfl (fun K hK => ?_) (AllReadyH.nil)
              · skip
                have Q7 := Lib.hid (Q5.out.alloc (.cells z26 28))
                have L7 := Lib.hid (L5.out.alloc (.cells z26 28))
                have M7 := Lib.hid (M5.out.alloc (.cells z26 28))
                have Zs7 := Lib.hid (OB.new (g := g) (W := W5) 28 z26 Q5.out.d.lt)
                have hB : w.heap.size < W5.heap.size := Q5.out.zr.lt
                have nB : ∀ x, o = some x → x.block ≠ W5.heap.size := fun x e => by have := (M5.out.own_ge x.block (by rw [e]; rfl)).2; omega
                refine step_run2 3 rfl (.pointer (some ⟨W5.heap.size, 0, none⟩)) (W5.alloc (.cells z26 28)) (by kernel_rfl) (by kernel_rfl) ?_
                refine hK.out _ _ trivial (fun hHeld => ?_)
                simp only [Act.put, List.setIfInBounds_toArray, List.set_cons_zero, List.set_cons_succ]
                clear hK K
                generalize hW7 : W5.alloc (.cells z26 28) = W7 at Q7 L7 Zs7 M7 ⊢
                clear hW7
                refine wpAnyH_ready (rs := [12]) (by kernel_rfl) (by simp) ?_
                refine AllReadyH.cons rfl (ready_store (n := 26) (by kernel_rfl) rfl (.tmp 3) (.tmp 16) rfl rfl rfl Zs7.out.k rfl rfl info_sm (by simp [Value.oneCell']) ?_) AllReadyH.nil
                intro W8 K9 G9
                have Zk := Lib.hid (show Blk 28 W8 _ _ from K9)
                have Q8 := Lib.hid (Q7.out.row G9 Zs7.out.n hB)
                have M8 := Lib.hid (M7.out.keepRow G9 (own_ne nB))
                refine ⟨trivial, fun hHeld => ?_⟩
                clear K9 G9
                refine wpAnyH_done (by kernel_rfl) ?_ _
                refine NoPanic.normal ?_
                go_wp2_with fail
                go_meet
                exact ⟨_, _, ⟨v, 1 + q, 0, 0, 0, 0, 0, ⟨0, 0, 0, 0, 0, 0, 0, 0, 0, 0, 0, 0, 0, 0, 0⟩, 0, 0, 0, o, m, c, zs⟩, rfl, rfl, ⟨Q8.out, Zk.out, ⟨M8.out, ho.out, hm, nB⟩, hB⟩, ⟨hv, by dsimp only; omega, rfl, rfl, rfl, rfl, rfl, rfl, rfl, rfl, rfl⟩⟩
            · skip
              have Q6 := Lib.hid (Q5.out.alloc (.cells z26 28))
              have L6 := Lib.hid (L5.out.alloc (.cells z26 28))
              have M6 := Lib.hid (M5.out.alloc (.cells z26 28))
              have Zs6 := Lib.hid (OB.new (g := g) (W := W5) 28 z26 Q5.out.d.lt)
              have hB : w.heap.size < W5.heap.size := Q5.out.zr.lt
              have nB : ∀ x, o = some x → x.block ≠ W5.heap.size := fun x e => by have := (M5.out.own_ge x.block (by rw [e]; rfl)).2; omega
              refine step_run2 3 rfl (.pointer (some ⟨W5.heap.size, 0, none⟩)) (W5.alloc (.cells z26 28)) (by kernel_rfl) (by kernel_rfl) ?_
              refine hK.out _ _ trivial (fun hHeld => ?_)
              simp only [Act.put, List.setIfInBounds_toArray, List.set_cons_zero, List.set_cons_succ]
              clear hK K
              generalize hW6 : W5.alloc (.cells z26 28) = W6 at Q6 L6 Zs6 M6 ⊢
              clear hW6
              refine wpAnyH_ready (rs := [4]) (by kernel_rfl) (by simp) ?_
              refine AllReadyH.cons rfl (fun K hK => ?_) (AllReadyH.nil)
              · have hc := (cells_of L6.out.k i).trans (ctxRow_at i hi)
                have hv := ctxRow_bd i
                generalize ctxRow.getD i 0 = v at hc hv
                refine step_run2 10 rfl (.int .i64 v) W6 (by kernel_rfl) (by go_simp) ?_
                refine hK.out _ _ trivial (fun hHeld => ?_)
                simp only [Act.put, List.setIfInBounds_toArray, List.set_cons_zero, List.set_cons_succ]
                clear hK K hc
                refine take_lit (i := 10) (v := sm0V v (1 + q) o m c) 16 rfl rfl (by kernel_rfl) (by kernel_rfl) (by kernel_rfl) (fun _ _ _ h => h) (Or.inl ⟨by rfl, fun w _ => by kernel_rfl⟩) (by trivial) ?_
                simp only [Act.put, List.setIfInBounds_toArray, List.set_cons_zero, List.set_cons_succ]
                refine wpAnyH_ready (rs := [12]) (by kernel_rfl) (by simp) ?_
                refine AllReadyH.cons rfl (ready_store (n := 26) (by kernel_rfl) rfl (.tmp 3) (.tmp 16) rfl rfl rfl Zs6.out.k rfl rfl info_sm (by simp [Value.oneCell']) ?_) AllReadyH.nil
                intro W8 K9 G9
                have Zk := Lib.hid (show Blk 28 W8 _ _ from K9)
                have Q8 := Lib.hid (Q6.out.row G9 Zs6.out.n hB)
                have M8 := Lib.hid (M6.out.keepRow G9 (own_ne nB))
                refine ⟨trivial, fun hHeld => ?_⟩
                clear K9 G9
                refine wpAnyH_done (by kernel_rfl) ?_ _
                refine NoPanic.normal ?_
                go_wp2_with fail
                go_meet
                exact ⟨_, _, ⟨v, 1 + q, 0, 0, 0, 0, 0, ⟨0, 0, 0, 0, 0, 0, 0, 0, 0, 0, 0, 0, 0, 0, 0⟩, 0, 0, 0, o, m, c, zs⟩, rfl, rfl, ⟨Q8.out, Zk.out, ⟨M8.out, ho.out, hm, nB⟩, hB⟩, ⟨hv, by dsimp only; omega, rfl, rfl, rfl, rfl, rfl, rfl, rfl, rfl, rfl⟩⟩
          · skip
            have Q5 := Lib.hid (Q4.out.alloc (.cells z26 28))
            have M5 := Lib.hid (M4.out.alloc (.cells z26 28))
            have Zs5 := Lib.hid (OB.new (g := g) (W := W4) 28 z26 Q4.out.d.lt)
            have hB : w.heap.size < W4.heap.size := Q4.out.zr.lt
            have nB : ∀ x, o = some x → x.block ≠ W4.heap.size := fun x e => by have := (M4.out.own_ge x.block (by rw [e]; rfl)).2; omega
            refine step_run2 3 rfl (.pointer (some ⟨W4.heap.size, 0, none⟩)) (W4.alloc (.cells z26 28)) (by kernel_rfl) (by kernel_rfl) ?_
            refine hK.out _ _ trivial (fun hHeld => ?_)
            simp only [Act.put, List.setIfInBounds_toArray, List.set_cons_zero, List.set_cons_succ]
            clear hK K
            generalize hW5 : W4.alloc (.cells z26 28) = W5 at Q5 Zs5 M5 ⊢
            clear hW5
            refine wpAnyH_ready (rs := [0]) (by kernel_rfl) (by simp) ?_
            refine AllReadyH.cons rfl (fun K hK => ?_) (AllReadyH.nil)
            · skip
              have Q6 := Lib.hid (Q5.out.alloc (.cells #[.int .i64 0, .int .i64 0, .int .i64 1, .int .i64 15] 3))
              have Zs6 := Lib.hid (Zs5.out.alloc (.cells #[.int .i64 0, .int .i64 0, .int .i64 1, .int .i64 15] 3))
              have M6 := Lib.hid (M5.out.alloc (.cells #[.int .i64 0, .int .i64 0, .int .i64 1, .int .i64 15] 3))
              have L6 := Lib.hid (OB.new (g := g) (W := W5) 3 #[.int .i64 0, .int .i64 0, .int .i64 1, .int .i64 15] Q5.out.d.lt)
              refine step_run2 6 rfl (.slice (some ⟨W5.heap.size, 0, none⟩) 4 4) (W5.alloc (.cells #[.int .i64 0, .int .i64 0, .int .i64 1, .int .i64 15] 3)) (by kernel_rfl) (by kernel_rfl) ?_
              refine hK.out _ _ trivial (fun hHeld => ?_)
              simp only [Act.put, List.setIfInBounds_toArray, List.set_cons_zero, List.set_cons_succ]
              clear hK K
              generalize hW6 : W5.alloc (.cells #[.int .i64 0, .int .i64 0, .int .i64 1, .int .i64 15] 3) = W6 at Q6 L6 Zs6 M6 ⊢
              clear hW6
              refine take_lit (i := 3) (v := .pointer (some ⟨W5.heap.size, i, none⟩)) 9 rfl rfl (by kernel_rfl) (by kernel_rfl) (by kernel_rfl) (fun _ _ _ h => h) (Or.inl ⟨by rfl, fun w hSw => by clear hSw; go_simp; try (intro h9; exact absurd (h9 (by omega)) (by omega))⟩) (by trivial) ?_
              simp only [Act.put, List.setIfInBounds_toArray, List.set_cons_zero, List.set_cons_succ]
              refine wpAnyH_ready (rs := [4]) (by kernel_rfl) (by simp) ?_
              refine AllReadyH.cons rfl (fun K hK => ?_) (AllReadyH.nil)
              · have hc := (cells_of L6.out.k i).trans (ctxRow_at i hi)
                have hv := ctxRow_bd i
                generalize ctxRow.getD i 0 = v at hc hv
                refine step_run2 10 rfl (.int .i64 v) W6 (by kernel_rfl) (by go_simp) ?_
                refine hK.out _ _ trivial (fun hHeld => ?_)
                simp only [Act.put, List.setIfInBounds_toArray, List.set_cons_zero, List.set_cons_succ]
                clear hK K hc
                refine take_lit (i := 10) (v := sm0V v (1 + q) o m c) 16 rfl rfl (by kernel_rfl) (by kernel_rfl) (by kernel_rfl) (fun _ _ _ h => h) (Or.inl ⟨by rfl, fun w _ => by kernel_rfl⟩) (by trivial) ?_
                simp only [Act.put, List.setIfInBounds_toArray, List.set_cons_zero, List.set_cons_succ]
                refine wpAnyH_ready (rs := [12]) (by kernel_rfl) (by simp) ?_
                refine AllReadyH.cons rfl (ready_store (n := 26) (by kernel_rfl) rfl (.tmp 3) (.tmp 16) rfl rfl rfl Zs6.out.k rfl rfl info_sm (by simp [Value.oneCell']) ?_) AllReadyH.nil
                intro W8 K9 G9
                have Zk := Lib.hid (show Blk 28 W8 _ _ from K9)
                have Q8 := Lib.hid (Q6.out.row G9 Zs6.out.n hB)
                have M8 := Lib.hid (M6.out.keepRow G9 (own_ne nB))
                refine ⟨trivial, fun hHeld => ?_⟩
                clear K9 G9
                refine wpAnyH_done (by kernel_rfl) ?_ _
                refine NoPanic.normal ?_
                go_wp2_with fail
                go_meet
                exact ⟨_, _, ⟨v, 1 + q, 0, 0, 0, 0, 0, ⟨0, 0, 0, 0, 0, 0, 0, 0, 0, 0, 0, 0, 0, 0, 0⟩, 0, 0, 0, o, m, c, zs⟩, rfl, rfl, ⟨Q8.out, Zk.out, ⟨M8.out, ho.out, hm, nB⟩, hB⟩, ⟨hv, by dsimp only; omega, rfl, rfl, rfl, rfl, rfl, rfl, rfl, rfl, rfl⟩⟩
        · skip
          have Q4 := Lib.hid (Q3.out.alloc (.cells z26 28))
          have Zs4 := Lib.hid (OB.new (g := g) (W := W3) 28 z26 Q3.out.d.lt)
          have hB : w.heap.size < W3.heap.size := Q3.out.zr.lt
          refine step_run2 3 rfl (.pointer (some ⟨W3.heap.size, 0, none⟩)) (W3.alloc (.cells z26 28)) (by kernel_rfl) (by kernel_rfl) ?_
          refine hK.out _ _ trivial (fun hHeld => ?_)
          simp only [Act.put, List.setIfInBounds_toArray, List.set_cons_zero, List.set_cons_succ]
          clear hK K
          generalize hW4 : W3.alloc (.cells z26 28) = W4 at Q4 Zs4 ⊢
          clear hW4
          refine wpAnyH_ready (rs := [0, 9]) (by kernel_rfl) (by simp) ?_
          refine AllReadyH.cons rfl (fun K hK => ?_) (AllReadyH.cons rfl (fun K hK => ?_) (AllReadyH.nil))
          · skip
            have Q5 := Lib.hid (Q4.out.alloc (.cells #[.int .i64 0, .int .i64 0, .int .i64 1, .int .i64 15] 3))
            have Zs5 := Lib.hid (Zs4.out.alloc (.cells #[.int .i64 0, .int .i64 0, .int .i64 1, .int .i64 15] 3))
            have L5 := Lib.hid (OB.new (g := g) (W := W4) 3 #[.int .i64 0, .int .i64 0, .int .i64 1, .int .i64 15] Q4.out.d.lt)
            refine step_run2 6 rfl (.slice (some ⟨W4.heap.size, 0, none⟩) 4 4) (W4.alloc (.cells #[.int .i64 0, .int .i64 0, .int .i64 1, .int .i64 15] 3)) (by kernel_rfl) (by kernel_rfl) ?_
            refine hK.out _ _ trivial (fun hHeld => ?_)
            simp only [Act.put, List.setIfInBounds_toArray, List.set_cons_zero, List.set_cons_succ]
            clear hK K
            generalize hW5 : W4.alloc (.cells #[.int .i64 0, .int .i64 0, .int .i64 1, .int .i64 15] 3) = W5 at Q5 L5 Zs5 ⊢
            clear hW5
            refine take_lit (i := 3) (v := .pointer (some ⟨W4.heap.size, i, none⟩)) 9 rfl rfl (by kernel_rfl) (by kernel_rfl) (by kernel_rfl) (fun _ _ _ h => h) (Or.inl ⟨by rfl, fun w hSw => by clear hSw; go_simp; try (intro h9; exact absurd (h9 (by omega)) (by omega))⟩) (by trivial) ?_
            simp only [Act.put, List.setIfInBounds_toArray, List.set_cons_zero, List.set_cons_succ]
            refine wpAnyH_ready (rs := [4, 9]) (by kernel_rfl) (by simp) ?_
            refine AllReadyH.cons rfl (fun K hK => ?_) (AllReadyH.cons rfl (fun K hK => ?_) (AllReadyH.nil))
            · have hc := (cells_of L5.out.k i).trans (ctxRow_at i hi)
              have hv := ctxRow_bd i
              generalize ctxRow.getD i 0 = v at hc hv
              refine step_run2 10 rfl (.int .i64 v) W5 (by kernel_rfl) (by go_simp) ?_
              refine hK.out _ _ trivial (fun hHeld => ?_)
              simp only [Act.put, List.setIfInBounds_toArray, List.set_cons_zero, List.set_cons_succ]
              clear hK K hc
              refine wpAnyH_ready (rs := [9]) (by kernel_rfl) (by simp) ?_
              refine AllReadyH.cons rfl (fun K hK => ?_) (AllReadyH.nil)
              · skip
                refine step_call 15 rfl 46 #[.pointer (some ⟨g, 0, none⟩), .int .i64 12] (by kernel_rfl) (by kernel_rfl) (bytes_in g 12 W5 Q5.out.d (by omega)) ?_
                rintro e W7 ⟨o, m, c, zs, rfl, hm, mk, ho, hd, hg⟩
                replace ho := Lib.hid ho
                have nB : ∀ x, o = some x → x.block ≠ W3.heap.size := fun x e => by have h1 := (mk.own_ge x.block (by rw [e]; rfl)).1; have h2 := Zs5.out.k.lt; omega
                have M7 := Lib.hid (mk.mono (B' := w.heap.size + 1) Q5.out.zr.lt)
                have L7 := Lib.hid (L5.out.call hg)
                have Zs7 := Lib.hid (Zs5.out.call hg)
                have Q7 := Lib.hid (Q5.out.call hlt hd hg)
                clear hd hg mk
                refine ⟨_, rfl, ?_⟩
                refine hK.out _ _ trivial (fun hHeld => ?_)
                simp only [Act.put, List.setIfInBounds_toArray, List.set_cons_zero, List.set_cons_succ]
                clear hK K
                refine take_lit (i := 10) (v := sm0V v (1 + q) o m c) 16 rfl rfl (by kernel_rfl) (by kernel_rfl) (by kernel_rfl) (fun _ _ _ h => h) (Or.inl ⟨by rfl, fun w _ => by kernel_rfl⟩) (by trivial) ?_
                simp only [Act.put, List.setIfInBounds_toArray, List.set_cons_zero, List.set_cons_succ]
                refine wpAnyH_ready (rs := [12]) (by kernel_rfl) (by simp) ?_
                refine AllReadyH.cons rfl (ready_store (n := 26) (by kernel_rfl) rfl (.tmp 3) (.tmp 16) rfl rfl rfl Zs7.out.k rfl rfl info_sm (by simp [Value.oneCell']) ?_) AllReadyH.nil
                intro W8 K9 G9
                have Zk := Lib.hid (show Blk 28 W8 _ _ from K9)
                have Q8 := Lib.hid (Q7.out.row G9 Zs7.out.n hB)
                have M8 := Lib.hid (M7.out.keepRow G9 (own_ne nB))
                refine ⟨trivial, fun hHeld => ?_⟩
                clear K9 G9
                refine wpAnyH_done (by kernel_rfl) ?_ _
                refine NoPanic.normal ?_
                go_wp2_with fail
                go_meet
                exact ⟨_, _, ⟨v, 1 + q, 0, 0, 0, 0, 0, ⟨0, 0, 0, 0, 0, 0, 0, 0, 0, 0, 0, 0, 0, 0, 0⟩, 0, 0, 0, o, m, c, zs⟩, rfl, rfl, ⟨Q8.out, Zk.out, ⟨M8.out, ho.out, hm, nB⟩, hB⟩, ⟨hv, by dsimp only; omega, rfl, rfl, rfl, rfl, rfl, rfl, rfl, rfl, rfl⟩⟩
            · skip
              refine step_call 15 rfl 46 #[.pointer (some ⟨g, 0, none⟩), .int .i64 12] (by kernel_rfl) (by kernel_rfl) (bytes_in g 12 W5 Q5.out.d (by omega)) ?_
              rintro e W6 ⟨o, m, c, zs, rfl, hm, mk, ho, hd, hg⟩
              replace ho := Lib.hid ho
              have nB : ∀ x, o = some x → x.block ≠ W3.heap.size := fun x e => by have h1 := (mk.own_ge x.block (by rw [e]; rfl)).1; have h2 := Zs5.out.k.lt; omega
              have M6 := Lib.hid (mk.mono (B' := w.heap.size + 1) Q5.out.zr.lt)
              have L6 := Lib.hid (L5.out.call hg)
              have Zs6 := Lib.hid (Zs5.out.call hg)
              have Q6 := Lib.hid (Q5.out.call hlt hd hg)
              clear hd hg mk
              refine ⟨_, rfl, ?_⟩
              refine hK.out _ _ trivial (fun hHeld => ?_)
              simp only [Act.put, List.setIfInBounds_toArray, List.set_cons_zero, List.set_cons_succ]
              clear hK K
              refine wpAnyH_ready (rs := [4]) (by kernel_rfl) (by simp) ?_
              refine AllReadyH.cons rfl (fun K hK => ?_) (AllReadyH.nil)
              · have hc := (cells_of L6.out.k i).trans (ctxRow_at i hi)
                have hv := ctxRow_bd i
                generalize ctxRow.getD i 0 = v at hc hv
                refine step_run2 10 rfl (.int .i64 v) W6 (by kernel_rfl) (by go_simp) ?_
                refine hK.out _ _ trivial (fun hHeld => ?_)
                simp only [Act.put, List.setIfInBounds_toArray, List.set_cons_zero, List.set_cons_succ]
                clear hK K hc
                refine take_lit (i := 10) (v := sm0V v (1 + q) o m c) 16 rfl rfl (by kernel_rfl) (by kernel_rfl) (by kernel_rfl) (fun _ _ _ h => h) (Or.inl ⟨by rfl, fun w _ => by kernel_rfl⟩) (by trivial) ?_
                simp only [Act.put, List.setIfInBounds_toArray, List.set_cons_zero, List.set_cons_succ]
                refine wpAnyH_ready (rs := [12]) (by kernel_rfl) (by simp) ?_
                refine AllReadyH.cons rfl (ready_store (n := 26) (by kernel_rfl) rfl (.tmp 3) (.tmp 16) rfl rfl rfl Zs6.out.k rfl rfl info_sm (by simp [Value.oneCell']) ?_) AllReadyH.nil
                intro W8 K9 G9
                have Zk := Lib.hid (show Blk 28 W8 _ _ from K9)
                have Q8 := Lib.hid (Q6.out.row G9 Zs6.out.n hB)
                have M8 := Lib.hid (M6.out.keepRow G9 (own_ne nB))
                refine ⟨trivial, fun hHeld => ?_⟩
                clear K9 G9
                refine wpAnyH_done (by kernel_rfl) ?_ _
                refine NoPanic.normal ?_
                go_wp2_with fail
                go_meet
                exact ⟨_, _, ⟨v, 1 + q, 0, 0, 0, 0, 0, ⟨0, 0, 0, 0, 0, 0, 0, 0, 0, 0, 0, 0, 0, 0, 0⟩, 0, 0, 0, o, m, c, zs⟩, rfl, rfl, ⟨Q8.out, Zk.out, ⟨M8.out, ho.out, hm, nB⟩, hB⟩, ⟨hv, by dsimp only; omega, rfl, rfl, rfl, rfl, rfl, rfl, rfl, rfl, rfl⟩⟩
          · skip
            refine step_call 15 rfl 46 #[.pointer (some ⟨g, 0, none⟩), .int .i64 12] (by kernel_rfl) (by kernel_rfl) (bytes_in g 12 W4 Q4.out.d (by omega)) ?_
            rintro e W5 ⟨o, m, c, zs, rfl, hm, mk, ho, hd, hg⟩
            replace ho := Lib.hid ho
            have nB : ∀ x, o = some x → x.block ≠ W3.heap.size := fun x e => by have h1 := (mk.own_ge x.block (by rw [e]; rfl)).1; have h2 := Zs4.out.k.lt; omega
            have M5 := Lib.hid (mk.mono (B' := w.heap.size + 1) Q4.out.zr.lt)
            have Zs5 := Lib.hid (Zs4.out.call hg)
            have Q5 := Lib.hid (Q4.out.call hlt hd hg)
            clear hd hg mk
            refine ⟨_, rfl, ?_⟩
            refine hK.out _ _ trivial (fun hHeld => ?_)
            simp only [Act.put, List.setIfInBounds_toArray, List.set_cons_zero, List.set_cons_succ]
            clear hK K
            refine wpAnyH_ready (rs := [0]) (by kernel_rfl) (by simp) ?_
            refine AllReadyH.cons rfl (fun K hK => ?_) (AllReadyH.nil)
            · skip
              have Q6 := Lib.hid (Q5.out.alloc (.cells #[.int .i64 0, .int .i64 0, .int .i64 1, .int .i64 15] 3))
              have Zs6 := Lib.hid (Zs5.out.alloc (.cells #[.int .i64 0, .int .i64 0, .int .i64 1, .int .i64 15] 3))
              have M6 := Lib.hid (M5.out.alloc (.cells #[.int .i64 0, .int .i64 0, .int .i64 1, .int .i64 15] 3))
              have L6 := Lib.hid (OB.new (g := g) (W := W5) 3 #[.int .i64 0, .int .i64 0, .int .i64 1, .int .i64 15] Q5.out.d.lt)
              refine step_run2 6 rfl (.slice (some ⟨W5.heap.size, 0, none⟩) 4 4) (W5.alloc (.cells #[.int .i64 0, .int .i64 0, .int .i64 1, .int .i64 15] 3)) (by kernel_rfl) (by kernel_rfl) ?_
              refine hK.out _ _ trivial (fun hHeld => ?_)
              simp only [Act.put, List.setIfInBounds_toArray, List.set_cons_zero, List.set_cons_succ]
              clear hK K
              generalize hW6 : W5.alloc (.cells #[.int .i64 0, .int .i64 0, .int .i64 1, .int .i64 15] 3) = W6 at Q6 L6 Zs6 M6 ⊢
              clear hW6
              refine take_lit (i := 3) (v := .pointer (some ⟨W5.heap.size, i, none⟩)) 9 rfl rfl (by kernel_rfl) (by kernel_rfl) (by kernel_rfl) (fun _ _ _ h => h) (Or.inl ⟨by rfl, fun w hSw => by clear hSw; go_simp; try (intro h9; exact absurd (h9 (by omega)) (by omega))⟩) (by trivial) ?_
              simp only [Act.put, List.setIfInBounds_toArray, List.set_cons_zero, List.set_cons_succ]
              refine wpAnyH_ready (rs := [4]) (by kernel_rfl) (by simp) ?_
              refine AllReadyH.cons rfl (fun K hK => ?_) (AllReadyH.nil)
              · have hc := (cells_of L6.out.k i).trans (ctxRow_at i hi)
                have hv := ctxRow_bd i
                generalize ctxRow.getD i 0 = v at hc hv
                refine step_run2 10 rfl (.int .i64 v) W6 (by kernel_rfl) (by go_simp) ?_
                refine hK.out _ _ trivial (fun hHeld => ?_)
                simp only [Act.put, List.setIfInBounds_toArray, List.set_cons_zero, List.set_cons_succ]
                clear hK K hc
                refine take_lit (i := 10) (v := sm0V v (1 + q) o m c) 16 rfl rfl (by kernel_rfl) (by kernel_rfl) (by kernel_rfl) (fun _ _ _ h => h) (Or.inl ⟨by rfl, fun w _ => by kernel_rfl⟩) (by trivial) ?_
                simp only [Act.put, List.setIfInBounds_toArray, List.set_cons_zero, List.set_cons_succ]
                refine wpAnyH_ready (rs := [12]) (by kernel_rfl) (by simp) ?_
                refine AllReadyH.cons rfl (ready_store (n := 26) (by kernel_rfl) rfl (.tmp 3) (.tmp 16) rfl rfl rfl Zs6.out.k rfl rfl info_sm (by simp [Value.oneCell']) ?_) AllReadyH.nil
                intro W8 K9 G9
                have Zk := Lib.hid (show Blk 28 W8 _ _ from K9)
                have Q8 := Lib.hid (Q6.out.row G9 Zs6.out.n hB)
                have M8 := Lib.hid (M6.out.keepRow G9 (own_ne nB))
                refine ⟨trivial, fun hHeld => ?_⟩
                clear K9 G9
                refine wpAnyH_done (by kernel_rfl) ?_ _
                refine NoPanic.normal ?_
                go_wp2_with fail
                go_meet
                exact ⟨_, _, ⟨v, 1 + q, 0, 0, 0, 0, 0, ⟨0, 0, 0, 0, 0, 0, 0, 0, 0, 0, 0, 0, 0, 0, 0⟩, 0, 0, 0, o, m, c, zs⟩, rfl, rfl, ⟨Q8.out, Zk.out, ⟨M8.out, ho.out, hm, nB⟩, hB⟩, ⟨hv, by dsimp only; omega, rfl, rfl, rfl, rfl, rfl, rfl, rfl, rfl, rfl⟩⟩
      · skip
        have Q3 := Lib.hid (Q2.out.alloc (.cells z26 28))
        have Zs3 := Lib.hid (OB.new (g := g) (W := W2) 28 z26 Q2.out.d.lt)
        have hB : w.heap.size < W2.heap.size := Q2.out.zr.lt
        refine step_run2 3 rfl (.pointer (some ⟨W2.heap.size, 0, none⟩)) (W2.alloc (.cells z26 28)) (by kernel_rfl) (by kernel_rfl) ?_
        refine hK.out _ _ trivial (fun hHeld => ?_)
        simp only [Act.put, List.setIfInBounds_toArray, List.set_cons_zero, List.set_cons_succ]
        clear hK K
        generalize hW3 : W2.alloc (.cells z26 28) = W3 at Q3 Zs3 ⊢
        clear hW3
        refine wpAnyH_ready (rs := [0, 6]) (by kernel_rfl) (by simp) ?_
        refine AllReadyH.cons rfl (fun K hK => ?_) (AllReadyH.cons rfl (fun K hK => ?_) (AllReadyH.nil))
        · skip
          have Q4 := Lib.hid (Q3.out.alloc (.cells #[.int .i64 0, .int .i64 0, .int .i64 1, .int .i64 15] 3))
          have Zs4 := Lib.hid (Zs3.out.alloc (.cells #[.int .i64 0, .int .i64 0, .int .i64 1, .int .i64 15] 3))
          have L4 := Lib.hid (OB.new (g := g) (W := W3) 3 #[.int .i64 0, .int .i64 0, .int .i64 1, .int .i64 15] Q3.out.d.lt)
          refine step_run2 6 rfl (.slice (some ⟨W3.heap.size, 0, none⟩) 4 4) (W3.alloc (.cells #[.int .i64 0, .int .i64 0, .int .i64 1, .int .i64 15] 3)) (by kernel_rfl) (by kernel_rfl) ?_
          refine hK.out _ _ trivial (fun hHeld => ?_)
          simp only [Act.put, List.setIfInBounds_toArray, List.set_cons_zero, List.set_cons_succ]
          clear hK K
          generalize hW4 : W3.alloc (.cells #[.int .i64 0, .int .i64 0, .int .i64 1, .int .i64 15] 3) = W4 at Q4 L4 Zs4 ⊢
          clear hW4
          refine take_lit (i := 3) (v := .pointer (some ⟨W3.heap.size, i, none⟩)) 9 rfl rfl (by kernel_rfl) (by kernel_rfl) (by kernel_rfl) (fun _ _ _ h => h) (Or.inl ⟨by rfl, fun w hSw => by clear hSw; go_simp; try (intro h9; exact absurd (h9 (by omega)) (by omega))⟩) (by trivial) ?_
          simp only [Act.put, List.setIfInBounds_toArray, List.set_cons_zero, List.set_cons_succ]
          refine wpAnyH_ready (rs := [4, 6]) (by kernel_rfl) (by simp) ?_
          refine AllReadyH.cons rfl (fun K hK => ?_) (AllReadyH.cons rfl (fun K hK => ?_) (AllReadyH.nil))
          · have hc := (cells_of L4.out.k i).trans (ctxRow_at i hi)
            have hv := ctxRow_bd i
            generalize ctxRow.getD i 0 = v at hc hv
            refine step_run2 10 rfl (.int .i64 v) W4 (by kernel_rfl) (by go_simp) ?_
            refine hK.out _ _ trivial (fun hHeld => ?_)
            simp only [Act.put, List.setIfInBounds_toArray, List.set_cons_zero, List.set_cons_succ]
            clear hK K hc
            refine wpAnyH_ready (rs := [6]) (by kernel_rfl) (by simp) ?_
            refine AllReadyH.cons rfl (fun K hK => ?_) (AllReadyH.nil)
            · skip
              refine step_call 12 rfl 26 #[.pointer (some ⟨g, 0, none⟩), .int .i64 6] (by kernel_rfl) (by kernel_rfl) (next_in g 6 _ Q4.out.d (by omega) (by omega)) ?_
              rintro e W6 ⟨q, rfl, q0, q1, hd, hg⟩
              have L6 := Lib.hid (L4.out.call hg)
              have Zs6 := Lib.hid (Zs4.out.call hg)
              have Q6 := Lib.hid (Q4.out.call hlt hd hg)
              clear hd hg
              refine ⟨_, rfl, ?_⟩
              refine hK.out _ _ trivial (fun hHeld => ?_)
              simp only [Act.put, List.setIfInBounds_toArray, List.set_cons_zero, List.set_cons_succ]
              clear hK K
              refine take_lit (i := 7) (v := .int .i64 (1 + q)) 13 rfl rfl (by kernel_rfl) (by kernel_rfl) (by kernel_rfl) (fun _ _ _ h => h) (Or.inl ⟨by rfl, fun w hSw => by go_simp; try (simp [IntKind.wrap, IntKind.signed, IntKind.bits]; omega)⟩) (by trivial) ?_
              simp only [Act.put, List.setIfInBounds_toArray, List.set_cons_zero, List.set_cons_succ]
              refine wpAnyH_ready (rs := [9]) (by kernel_rfl) (by simp) ?_
              refine AllReadyH.cons rfl (fun K hK => ?_) (AllReadyH.nil)
              · skip
                refine step_call 15 rfl 46 #[.pointer (some ⟨g, 0, none⟩), .int .i64 12] (by kernel_rfl) (by kernel_rfl) (bytes_in g 12 W6 Q6.out.d (by omega)) ?_
                rintro e W7 ⟨o, m, c, zs, rfl, hm, mk, ho, hd, hg⟩
                replace ho := Lib.hid ho
                have nB : ∀ x, o = some x → x.block ≠ W2.heap.size := fun x e => by have h1 := (mk.own_ge x.block (by rw [e]; rfl)).1; have h2 := Zs6.out.k.lt; omega
                have M7 := Lib.hid (mk.mono (B' := w.heap.size + 1) Q6.out.zr.lt)
                have L7 := Lib.hid (L6.out.call hg)
                have Zs7 := Lib.hid (Zs6.out.call hg)
                have Q7 := Lib.hid (Q6.out.call hlt hd hg)
                clear hd hg mk
                refine ⟨_, rfl, ?_⟩
                refine hK.out _ _ trivial (fun hHeld => ?_)
                simp only [Act.put, List.setIfInBounds_toArray, List.set_cons_zero, List.set_cons_succ]
                clear hK K
                refine take_lit (i := 10) (v := sm0V v (1 + q) o m c) 16 rfl rfl (by kernel_rfl) (by kernel_rfl) (by kernel_rfl) (fun _ _ _ h => h) (Or.inl ⟨by rfl, fun w _ => by kernel_rfl⟩) (by trivial) ?_
                simp only [Act.put, List.setIfInBounds_toArray, List.set_cons_zero, List.set_cons_succ]
                refine wpAnyH_ready (rs := [12]) (by kernel_rfl) (by simp) ?_
                refine AllReadyH.cons rfl (ready_store (n := 26) (by kernel_rfl) rfl (.tmp 3) (.tmp 16) rfl rfl rfl Zs7.out.k rfl rfl info_sm (by simp [Value.oneCell']) ?_) AllReadyH.nil
                intro W8 K9 G9
                have Zk := Lib.hid (show Blk 28 W8 _ _ from K9)
                have Q8 := Lib.hid (Q7.out.row G9 Zs7.out.n hB)
                have M8 := Lib.hid (M7.out.keepRow G9 (own_ne nB))
                refine ⟨trivial, fun hHeld => ?_⟩
                clear K9 G9
                refine wpAnyH_done (by kernel_rfl) ?_ _
                refine NoPanic.normal ?_
                go_wp2_with fail
                go_meet
                exact ⟨_, _, ⟨v, 1 + q, 0, 0, 0, 0, 0, ⟨0, 0, 0, 0, 0, 0, 0, 0, 0, 0, 0, 0, 0, 0, 0⟩, 0, 0, 0, o, m, c, zs⟩, rfl, rfl, ⟨Q8.out, Zk.out, ⟨M8.out, ho.out, hm, nB⟩, hB⟩, ⟨hv, by dsimp only; omega, rfl, rfl, rfl, rfl, rfl, rfl, rfl, rfl, rfl⟩⟩
          · skip
            refine step_call 12 rfl 26 #[.pointer (some ⟨g, 0, none⟩), .int .i64 6] (by kernel_rfl) (by kernel_rfl) (next_in g 6 _ Q4.out.d (by omega) (by omega)) ?_
            rintro e W5 ⟨q, rfl, q0, q1, hd, hg⟩
            have L5 := Lib.hid (L4.out.call hg)
            have Zs5 := Lib.hid (Zs4.out.call hg)
            have Q5 := Lib.hid (Q4.out.call hlt hd hg)
            clear hd hg
            refine ⟨_, rfl, ?_⟩
            refine hK.out _ _ trivial (fun hHeld => ?_)
            simp only [Act.put, List.setIfInBounds_toArray, List.set_cons_zero, List.set_cons_succ]
            clear hK K
            refine take_lit (i := 7) (v := .int .i64 (1 + q)) 13 rfl rfl (by kernel_rfl) (by kernel_rfl) (by kernel_rfl) (fun _ _ _ h => h) (Or.inl ⟨by rfl, fun w hSw => by go_simp; try (simp [IntKind.wrap, IntKind.signed, IntKind.bits]; omega)⟩) (by trivial) ?_
            simp only [Act.put, List.setIfInBounds_toArray, List.set_cons_zero, List.set_cons_succ]
            refine wpAnyH_ready (rs := [4, 9]) (by kernel_rfl) (by simp) ?_
            refine AllReadyH.cons rfl (fun K hK => ?_) (AllReadyH.cons rfl (fun K hK => ?_) (AllReadyH.nil))
            · have hc := (cells_of L5.out.k i).trans (ctxRow_at i hi)
              have hv := ctxRow_bd i
              generalize ctxRow.getD i 0 = v at hc hv
              refine step_run2 10 rfl (.int .i64 v) W5 (by kernel_rfl) (by go_simp) ?_
              refine hK.out _ _ trivial (fun hHeld => ?_)
              simp only [Act.put, List.setIfInBounds_toArray, List.set_cons_zero, List.set_cons_succ]
              clear hK K hc
              refine wpAnyH_ready (rs := [9]) (by kernel_rfl) (by simp) ?_
              refine AllReadyH.cons rfl (fun K hK => ?_) (AllReadyH.nil)
              · skip
                refine step_call 15 rfl 46 #[.pointer (some ⟨g, 0, none⟩), .int .i64 12] (by kernel_rfl) (by kernel_rfl) (bytes_in g 12 W5 Q5.out.d (by omega)) ?_
                rintro e W7 ⟨o, m, c, zs, rfl, hm, mk, ho, hd, hg⟩
                replace ho := Lib.hid ho
                have nB : ∀ x, o = some x → x.block ≠ W2.heap.size := fun x e => by have h1 := (mk.own_ge x.block (by rw [e]; rfl)).1; have h2 := Zs5.out.k.lt; omega
                have M7 := Lib.hid (mk.mono (B' := w.heap.size + 1) Q5.out.zr.lt)
                have L7 := Lib.hid (L5.out.call hg)
                have Zs7 := Lib.hid (Zs5.out.call hg)
                have Q7 := Lib.hid (Q5.out.call hlt hd hg)
                clear hd hg mk
                refine ⟨_, rfl, ?_⟩
                refine hK.out _ _ trivial (fun hHeld => ?_)
                simp only [Act.put, List.setIfInBounds_toArray, List.set_cons_zero, List.set_cons_succ]
                clear hK K
                refine take_lit (i := 10) (v := sm0V v (1 + q) o m c) 16 rfl rfl (by kernel_rfl) (by kernel_rfl) (by kernel_rfl) (fun _ _ _ h => h) (Or.inl ⟨by rfl, fun w _ => by kernel_rfl⟩) (by trivial) ?_
                simp only [Act.put, List.setIfInBounds_toArray, List.set_cons_zero, List.set_cons_succ]
                refine wpAnyH_ready (rs := [12]) (by kernel_rfl) (by simp) ?_
                refine AllReadyH.cons rfl (ready_store (n := 26) (by kernel_rfl) rfl (.tmp 3) (.tmp 16) rfl rfl rfl Zs7.out.k rfl rfl info_sm (by simp [Value.oneCell']) ?_) AllReadyH.nil
                intro W8 K9 G9
                have Zk := Lib.hid (show Blk 28 W8 _ _ from K9)
                have Q8 := Lib.hid (Q7.out.row G9 Zs7.out.n hB)
                have M8 := Lib.hid (M7.out.keepRow G9 (own_ne nB))
                refine ⟨trivial, fun hHeld => ?_⟩
                clear K9 G9
                refine wpAnyH_done (by kernel_rfl) ?_ _
                refine NoPanic.normal ?_
                go_wp2_with fail
                go_meet
                exact ⟨_, _, ⟨v, 1 + q, 0, 0, 0, 0, 0, ⟨0, 0, 0, 0, 0, 0, 0, 0, 0, 0, 0, 0, 0, 0, 0⟩, 0, 0, 0, o, m, c, zs⟩, rfl, rfl, ⟨Q8.out, Zk.out, ⟨M8.out, ho.out, hm, nB⟩, hB⟩, ⟨hv, by dsimp only; omega, rfl, rfl, rfl, rfl, rfl, rfl, rfl, rfl, rfl⟩⟩
            · skip
              refine step_call 15 rfl 46 #[.pointer (some ⟨g, 0, none⟩), .int .i64 12] (by kernel_rfl) (by kernel_rfl) (bytes_in g 12 W5 Q5.out.d (by omega)) ?_
              rintro e W6 ⟨o, m, c, zs, rfl, hm, mk, ho, hd, hg⟩
              replace ho := Lib.hid ho
              have nB : ∀ x, o = some x → x.block ≠ W2.heap.size := fun x e => by have h1 := (mk.own_ge x.block (by rw [e]; rfl)).1; have h2 := Zs5.out.k.lt; omega
              have M6 := Lib.hid (mk.mono (B' := w.heap.size + 1) Q5.out.zr.lt)
              have L6 := Lib.hid (L5.out.call hg)
              have Zs6 := Lib.hid (Zs5.out.call hg)
              have Q6 := Lib.hid (Q5.out.call hlt hd hg)
              clear hd hg mk
              refine ⟨_, rfl, ?_⟩
              refine hK.out _ _ trivial (fun hHeld => ?_)
              simp only [Act.put, List.setIfInBounds_toArray, List.set_cons_zero, List.set_cons_succ]
              clear hK K
              refine wpAnyH_ready (rs := [4]) (by kernel_rfl) (by simp) ?_
              refine AllReadyH.cons rfl (fun K hK => ?_) (AllReadyH.nil)
              · have hc := (cells_of L6.out.k i).trans (ctxRow_at i hi)
                have hv := ctxRow_bd i
                generalize ctxRow.getD i 0 = v at hc hv
                refine step_run2 10 rfl (.int .i64 v) W6 (by kernel_rfl) (by go_simp) ?_
                refine hK.out _ _ trivial (fun hHeld => ?_)
                simp only [Act.put, List.setIfInBounds_toArray, List.set_cons_zero, List.set_cons_succ]
                clear hK K hc
                refine take_lit (i := 10) (v := sm0V v (1 + q) o m c) 16 rfl rfl (by kernel_rfl) (by kernel_rfl) (by kernel_rfl) (fun _ _ _ h => h) (Or.inl ⟨by rfl, fun w _ => by kernel_rfl⟩) (by trivial) ?_
                simp only [Act.put, List.setIfInBounds_toArray, List.set_cons_zero, List.set_cons_succ]
                refine wpAnyH_ready (rs := [12]) (by kernel_rfl) (by simp) ?_
                refine AllReadyH.cons rfl (ready_store (n := 26) (by kernel_rfl) rfl (.tmp 3) (.tmp 16) rfl rfl rfl Zs6.out.k rfl rfl info_sm (by simp [Value.oneCell']) ?_) AllReadyH.nil
                intro W8 K9 G9
                have Zk := Lib.hid (show Blk 28 W8 _ _ from K9)
                have Q8 := Lib.hid (Q6.out.row G9 Zs6.out.n hB)
                have M8 := Lib.hid (M6.out.keepRow G9 (own_ne nB))
                refine ⟨trivial, fun hHeld => ?_⟩
                clear K9 G9
                refine wpAnyH_done (by kernel_rfl) ?_ _
                refine NoPanic.normal ?_
                go_wp2_with fail
                go_meet
                exact ⟨_, _, ⟨v, 1 + q, 0, 0, 0, 0, 0, ⟨0, 0, 0, 0, 0, 0, 0, 0, 0, 0, 0, 0, 0, 0, 0⟩, 0, 0, 0, o, m, c, zs⟩, rfl, rfl, ⟨Q8.out, Zk.out, ⟨M8.out, ho.out, hm, nB⟩, hB⟩, ⟨hv, by dsimp only; omega, rfl, rfl, rfl, rfl, rfl, rfl, rfl, rfl, rfl⟩⟩
        · skip
          refine step_call 12 rfl 26 #[.pointer (some ⟨g, 0, none⟩), .int .i64 6] (by kernel_rfl) (by kernel_rfl) (next_in g 6 _ Q3.out.d (by omega) (by omega)) ?_
          rintro e W4 ⟨q, rfl, q0, q1, hd, hg⟩
          have Zs4 := Lib.hid (Zs3.out.call hg)
          have Q4 := Lib.hid (Q3.out.call hlt hd hg)
          clear hd hg
          refine ⟨_, rfl, ?_⟩
          refine hK.out _ _ trivial (fun hHeld => ?_)
          simp only [Act.put, List.setIfInBounds_toArray, List.set_cons_zero, List.set_cons_succ]
          clear hK K
          refine take_lit (i := 7) (v := .int .i64 (1 + q)) 13 rfl rfl (by kernel_rfl) (by kernel_rfl) (by kernel_rfl) (fun _ _ _ h => h) (Or.inl ⟨by rfl, fun w hSw => by go_simp; try (simp [IntKind.wrap, IntKind.signed, IntKind.bits]; omega)⟩) (by trivial) ?_
          simp only [Act.put, List.setIfInBounds_toArray, List.set_cons_zero, List.set_cons_succ]
          refine wpAnyH_ready (rs := [0, 9]) (by kernel_rfl) (by simp) ?_
          refine AllReadyH.cons rfl (fun K hK => ?_) (AllReadyH.cons rfl (fun K hK => ?_) (AllReadyH.nil))
          · skip
            have Q5 := Lib.hid (Q4.out.alloc (.cells #[.int .i64 0, .int .i64 0, .int .i64 1, .int .i64 15] 3))
            have Zs5 := Lib.hid (Zs4.out.alloc (.cells #[.int .i64 0, .int .i64 0, .int .i64 1, .int .i64 15] 3))
            have L5 := Lib.hid (OB.new (g := g) (W := W4) 3 #[.int .i64 0, .int .i64 0, .int .i64 1, .int .i64 15] Q4.out.d.lt)
            refine step_run2 6 rfl (.slice (some ⟨W4.heap.size, 0, none⟩) 4 4) (W4.alloc (.cells #[.int .i64 0, .int .i64 0, .int .i64 1, .int .i64 15] 3)) (by kernel_rfl) (by kernel_rfl) ?_
            refine hK.out _ _ trivial (fun hHeld => ?_)
            simp only [Act.put, List.setIfInBounds_toArray, List.set_cons_zero, List.set_cons_succ]
            clear hK K
            generalize hW5 : W4.alloc (.cells #[.int .i64 0, .int .i64 0, .int .i64 1, .int .i64 15] 3) = W5 at Q5 L5 Zs5 ⊢
            clear hW5
            refine take_lit (i := 3) (v := .pointer (some ⟨W4.heap.size, i, none⟩)) 9 rfl rfl (by kernel_rfl) (by kernel_rfl) (by kernel_rfl) (fun _ _ _ h => h) (Or.inl ⟨by rfl, fun w hSw => by clear hSw; go_simp; try (intro h9; exact absurd (h9 (by omega)) (by omega))⟩) (by trivial) ?_
            simp only [Act.put, List.setIfInBounds_toArray, List.set_cons_zero, List.set_cons_succ]
            refine wpAnyH_ready (rs := [4, 9]) (by kernel_rfl) (by simp) ?_
            refine AllReadyH.cons rfl (fun K hK => ?_) (AllReadyH.cons rfl (fun K hK => ?_) (AllReadyH.nil))
            · have hc := (cells_of L5.out.k i).trans (ctxRow_at i hi)
              have hv := ctxRow_bd i
              generalize ctxRow.getD i 0 = v at hc hv
              refine step_run2 10 rfl (.int .i64 v) W5 (by kernel_rfl) (by go_simp) ?_
              refine hK.out _ _ trivial (fun hHeld => ?_)
              simp only [Act.put, List.setIfInBounds_toArray, List.set_cons_zero, List.set_cons_succ]
              clear hK K hc
              refine wpAnyH_ready (rs := [9]) (by kernel_rfl) (by simp) ?_
              refine AllReadyH.cons rfl (fun K hK => ?_) (AllReadyH.nil)
              · skip
                refine step_call 15 rfl 46 #[.pointer (some ⟨g, 0, none⟩), .int .i64 12] (by kernel_rfl) (by kernel_rfl) (bytes_in g 12 W5 Q5.out.d (by omega)) ?_
                rintro e W7 ⟨o, m, c, zs, rfl, hm, mk, ho, hd, hg⟩
                replace ho := Lib.hid ho
                have nB : ∀ x, o = some x → x.block ≠ W2.heap.size := fun x e => by have h1 := (mk.own_ge x.block (by rw [e]; rfl)).1; have h2 := Zs5.out.k.lt; omega
                have M7 := Lib.hid (mk.mono (B' := w.heap.size + 1) Q5.out.zr.lt)
                have L7 := Lib.hid (L5.out.call hg)
                have Zs7 := Lib.hid (Zs5.out.call hg)
                have Q7 := Lib.hid (Q5.out.call hlt hd hg)
                clear hd hg mk
                refine ⟨_, rfl, ?_⟩
                refine hK.out _ _ trivial (fun hHeld => ?_)
                simp only [Act.put, List.setIfInBounds_toArray, List.set_cons_zero, List.set_cons_succ]
                clear hK K
                refine take_lit (i := 10) (v := sm0V v (1 + q) o m c) 16 rfl rfl (by kernel_rfl) (by kernel_rfl) (by kernel_rfl) (fun _ _ _ h => h) (Or.inl ⟨by rfl, fun w _ => by kernel_rfl⟩) (by trivial) ?_
                simp only [Act.put, List.setIfInBounds_toArray, List.set_cons_zero, List.set_cons_succ]
                refine wpAnyH_ready (rs := [12]) (by kernel_rfl) (by simp) ?_
                refine AllReadyH.cons rfl (ready_store (n := 26) (by kernel_rfl) rfl (.tmp 3) (.tmp 16) rfl rfl rfl Zs7.out.k rfl rfl info_sm (by simp [Value.oneCell']) ?_) AllReadyH.nil
                intro W8 K9 G9
                have Zk := Lib.hid (show Blk 28 W8 _ _ from K9)
                have Q8 := Lib.hid (Q7.out.row G9 Zs7.out.n hB)
                have M8 := Lib.hid (M7.out.keepRow G9 (own_ne nB))
                refine ⟨trivial, fun hHeld => ?_⟩
                clear K9 G9
                refine wpAnyH_done (by kernel_rfl) ?_ _
                refine NoPanic.normal ?_
                go_wp2_with fail
                go_meet
                exact ⟨_, _, ⟨v, 1 + q, 0, 0, 0, 0, 0, ⟨0, 0, 0, 0, 0, 0, 0, 0, 0, 0, 0, 0, 0, 0, 0⟩, 0, 0, 0, o, m, c, zs⟩, rfl, rfl, ⟨Q8.out, Zk.out, ⟨M8.out, ho.out, hm, nB⟩, hB⟩, ⟨hv, by dsimp only; omega, rfl, rfl, rfl, rfl, rfl, rfl, rfl, rfl, rfl⟩⟩
            · skip
              refine step_call 15 rfl 46 #[.pointer (some ⟨g, 0, none⟩), .int .i64 12] (by kernel_rfl) (by kernel_rfl) (bytes_in g 12 W5 Q5.out.d (by omega)) ?_
              rintro e W6 ⟨o, m, c, zs, rfl, hm, mk, ho, hd, hg⟩
              replace ho := Lib.hid ho
              have nB : ∀ x, o = some x → x.block ≠ W2.heap.size := fun x e => by have h1 := (mk.own_ge x.block (by rw [e]; rfl)).1; have h2 := Zs5.out.k.lt; omega
              have M6 := Lib.hid (mk.mono (B' := w.heap.size + 1) Q5.out.zr.lt)
              have L6 := Lib.hid (L5.out.call hg)
              have Zs6 := Lib.hid (Zs5.out.call hg)
              have Q6 := Lib.hid (Q5.out.call hlt hd hg)
              clear hd hg mk
              refine ⟨_, rfl, ?_⟩
              refine hK.out _ _ trivial (fun hHeld => ?_)
              simp only [Act.put, List.setIfInBounds_toArray, List.set_cons_zero, List.set_cons_succ]
              clear hK K
              refine wpAnyH_ready (rs := [4]) (by kernel_rfl) (by simp) ?_
              refine AllReadyH.cons rfl (fun K hK => ?_) (AllReadyH.nil)
              · have hc := (cells_of L6.out.k i).trans (ctxRow_at i hi)
                have hv := ctxRow_bd i
                generalize ctxRow.getD i 0 = v at hc hv
                refine step_run2 10 rfl (.int .i64 v) W6 (by kernel_rfl) (by go_simp) ?_
                refine hK.out _ _ trivial (fun hHeld => ?_)
                simp only [Act.put, List.setIfInBounds_toArray, List.set_cons_zero, List.set_cons_succ]
                clear hK K hc
                refine take_lit (i := 10) (v := sm0V v (1 + q) o m c) 16 rfl rfl (by kernel_rfl) (by kernel_rfl) (by kernel_rfl) (fun _ _ _ h => h) (Or.inl ⟨by rfl, fun w _ => by kernel_rfl⟩) (by trivial) ?_
                simp only [Act.put, List.setIfInBounds_toArray, List.set_cons_zero, List.set_cons_succ]
                refine wpAnyH_ready (rs := [12]) (by kernel_rfl) (by simp) ?_
                refine AllReadyH.cons rfl (ready_store (n := 26) (by kernel_rfl) rfl (.tmp 3) (.tmp 16) rfl rfl rfl Zs6.out.k rfl rfl info_sm (by simp [Value.oneCell']) ?_) AllReadyH.nil
                intro W8 K9 G9
                have Zk := Lib.hid (show Blk 28 W8 _ _ from K9)
                have Q8 := Lib.hid (Q6.out.row G9 Zs6.out.n hB)
                have M8 := Lib.hid (M6.out.keepRow G9 (own_ne nB))
                refine ⟨trivial, fun hHeld => ?_⟩
                clear K9 G9
                refine wpAnyH_done (by kernel_rfl) ?_ _
                refine NoPanic.normal ?_
                go_wp2_with fail
                go_meet
                exact ⟨_, _, ⟨v, 1 + q, 0, 0, 0, 0, 0, ⟨0, 0, 0, 0, 0, 0, 0, 0, 0, 0, 0, 0, 0, 0, 0⟩, 0, 0, 0, o, m, c, zs⟩, rfl, rfl, ⟨Q8.out, Zk.out, ⟨M8.out, ho.out, hm, nB⟩, hB⟩, ⟨hv, by dsimp only; omega, rfl, rfl, rfl, rfl, rfl, rfl, rfl, rfl, rfl⟩⟩
          · skip
            refine step_call 15 rfl 46 #[.pointer (some ⟨g, 0, none⟩), .int .i64 12] (by kernel_rfl) (by kernel_rfl) (bytes_in g 12 W4 Q4.out.d (by omega)) ?_
            rintro e W5 ⟨o, m, c, zs, rfl, hm, mk, ho, hd, hg⟩
            replace ho := Lib.hid ho
            have nB : ∀ x, o = some x → x.block ≠ W2.heap.size := fun x e => by have h1 := (mk.own_ge x.block (by rw [e]; rfl)).1; have h2 := Zs4.out.k.lt; omega
            have M5 := Lib.hid (mk.mono (B' := w.heap.size + 1) Q4.out.zr.lt)
            have Zs5 := Lib.hid (Zs4.out.call hg)
            have Q5 := Lib.hid (Q4.out.call hlt hd hg)
            clear hd hg mk
            refine ⟨_, rfl, ?_⟩
            refine hK.out _ _ trivial (fun hHeld => ?_)
            simp only [Act.put, List.setIfInBounds_toArray, List.set_cons_zero, List.set_cons_succ]
            clear hK K
            refine wpAnyH_ready (rs := [0]) (by kernel_rfl) (by simp) ?_
            refine AllReadyH.cons rfl (fun K hK => ?_) (AllReadyH.nil)
            · skip
              have Q6 := Lib.hid (Q5.out.alloc (.cells #[.int .i64 0, .int .i64 0, .int .i64 1, .int .i64 15] 3))
              have Zs6 := Lib.hid (Zs5.out.alloc (.cells #[.int .i64 0, .int .i64 0, .int .i64 1, .int .i64 15] 3))
              have M6 := Lib.hid (M5.out.alloc (.cells #[.int .i64 0, .int .i64 0, .int .i64 1, .int .i64 15] 3))
              have L6 := Lib.hid (OB.new (g := g) (W := W5) 3 #[.int .i64 0, .int .i64 0, .int .i64 1, .int .i64 15] Q5.out.d.lt)
              refine step_run2 6 rfl (.slice (some ⟨W5.heap.size, 0, none⟩) 4 4) (W5.alloc (.cells #[.int .i64 0, .int .i64 0, .int .i64 1, .int .i64 15] 3)) (by kernel_rfl) (by kernel_rfl) ?_
              refine hK.out _ _ trivial (fun hHeld => ?_)
              simp only [Act.put, List.setIfInBounds_toArray, List.set_cons_zero, List.set_cons_succ]
              clear hK K
              generalize hW6 : W5.alloc (.cells #[.int .i64 0, .int .i64 0, .int .i64 1, .int .i64 15] 3) = W6 at Q6 L6 Zs6 M6 ⊢
              clear hW6
              refine take_lit (i := 3) (v := .pointer (some ⟨W5.heap.size, i, none⟩)) 9 rfl rfl (by kernel_rfl) (by kernel_rfl) (by kernel_rfl) (fun _ _ _ h => h) (Or.inl ⟨by rfl, fun w hSw => by clear hSw; go_simp; try (intro h9; exact absurd (h9 (by omega)) (by omega))⟩) (by trivial) ?_
              simp only [Act.put, List.setIfInBounds_toArray, List.set_cons_zero, List.set_cons_succ]
              refine wpAnyH_ready (rs := [4]) (by kernel_rfl) (by simp) ?_
              refine AllReadyH.cons rfl (fun K hK => ?_) (AllReadyH.nil)
              · have hc := (cells_of L6.out.k i).trans (ctxRow_at i hi)
                have hv := ctxRow_bd i
                generalize ctxRow.getD i 0 = v at hc hv
                refine step_run2 10 rfl (.int .i64 v) W6 (by kernel_rfl) (by go_simp) ?_
                refine hK.out _ _ trivial (fun hHeld => ?_)
                simp only [Act.put, List.setIfInBounds_toArray, List.set_cons_zero, List.set_cons_succ]
                clear hK K hc
                refine take_lit (i := 10) (v := sm0V v (1 + q) o m c) 16 rfl rfl (by kernel_rfl) (by kernel_rfl) (by kernel_rfl) (fun _ _ _ h => h) (Or.inl ⟨by rfl, fun w _ => by kernel_rfl⟩) (by trivial) ?_
                simp only [Act.put, List.setIfInBounds_toArray, List.set_cons_zero, List.set_cons_succ]
                refine wpAnyH_ready (rs := [12]) (by kernel_rfl) (by simp) ?_
                refine AllReadyH.cons rfl (ready_store (n := 26) (by kernel_rfl) rfl (.tmp 3) (.tmp 16) rfl rfl rfl Zs6.out.k rfl rfl info_sm (by simp [Value.oneCell']) ?_) AllReadyH.nil
                intro W8 K9 G9
                have Zk := Lib.hid (show Blk 28 W8 _ _ from K9)
                have Q8 := Lib.hid (Q6.out.row G9 Zs6.out.n hB)
                have M8 := Lib.hid (M6.out.keepRow G9 (own_ne nB))
                refine ⟨trivial, fun hHeld => ?_⟩
                clear K9 G9
                refine wpAnyH_done (by kernel_rfl) ?_ _
                refine NoPanic.normal ?_
                go_wp2_with fail
                go_meet
                exact ⟨_, _, ⟨v, 1 + q, 0, 0, 0, 0, 0, ⟨0, 0, 0, 0, 0, 0, 0, 0, 0, 0, 0, 0, 0, 0, 0⟩, 0, 0, 0, o, m, c, zs⟩, rfl, rfl, ⟨Q8.out, Zk.out, ⟨M8.out, ho.out, hm, nB⟩, hB⟩, ⟨hv, by dsimp only; omega, rfl, rfl, rfl, rfl, rfl, rfl, rfl, rfl, rfl⟩⟩
    · skip
      have Q2 := Lib.hid (Q1.out.alloc (.cells z26 28))
      have Zs2 := Lib.hid (OB.new (g := g) (W := W1) 28 z26 Q1.out.d.lt)
      have hB : w.heap.size < W1.heap.size := Q1.out.zr.lt
      refine step_run2 3 rfl (.pointer (some ⟨W1.heap.size, 0, none⟩)) (W1.alloc (.cells z26 28)) (by kernel_rfl) (by kernel_rfl) ?_
      refine hK.out _ _ trivial (fun hHeld => ?_)
      simp only [Act.put, List.setIfInBounds_toArray, List.set_cons_zero, List.set_cons_succ]
      clear hK K
      generalize hW2 : W1.alloc (.cells z26 28) = W2 at Q2 Zs2 ⊢
      clear hW2
      refine wpAnyH_ready (rs := [0, 2]) (by kernel_rfl) (by simp) ?_
      refine AllReadyH.cons rfl (fun K hK => ?_) (AllReadyH.cons rfl (fun K hK => ?_) (AllReadyH.nil))
      · skip
        have Q3 := Lib.hid (Q2.out.alloc (.cells #[.int .i64 0, .int .i64 0, .int .i64 1, .int .i64 15] 3))
        have Zs3 := Lib.hid (Zs2.out.alloc (.cells #[.int .i64 0, .int .i64 0, .int .i64 1, .int .i64 15] 3))
        have L3 := Lib.hid (OB.new (g := g) (W := W2) 3 #[.int .i64 0, .int .i64 0, .int .i64 1, .int .i64 15] Q2.out.d.lt)
        refine step_run2 6 rfl (.slice (some ⟨W2.heap.size, 0, none⟩) 4 4) (W2.alloc (.cells #[.int .i64 0, .int .i64 0, .int .i64 1, .int .i64 15] 3)) (by kernel_rfl) (by kernel_rfl) ?_
        refine hK.out _ _ trivial (fun hHeld => ?_)
        simp only [Act.put, List.setIfInBounds_toArray, List.set_cons_zero, List.set_cons_succ]
        clear hK K
        generalize hW3 : W2.alloc (.cells #[.int .i64 0, .int .i64 0, .int .i64 1, .int .i64 15] 3) = W3 at Q3 L3 Zs3 ⊢
        clear hW3
        refine wpAnyH_ready (rs := [2]) (by kernel_rfl) (by simp) ?_
        refine AllReadyH.cons rfl (fun K hK => ?_) (AllReadyH.nil)
        · skip
          refine step_call 8 rfl 26 #[.pointer (some ⟨g, 0, none⟩), .int .i64 4] (by kernel_rfl) (by kernel_rfl) (next_in g 4 _ Q3.out.d (by omega) (by omega)) ?_
          rintro e W4 ⟨x, rfl, x0, x1, hd, hg⟩
          obtain ⟨i, rfl⟩ := Int.eq_ofNat_of_zero_le x0
          have hi : i < 4 := by omega
          have hI : (i : Int) < 4 := by omega
          have L4 := Lib.hid (L3.out.call hg)
          have Zs4 := Lib.hid (Zs3.out.call hg)
          have Q4 := Lib.hid (Q3.out.call hlt hd hg)
          clear hd hg
          refine ⟨_, rfl, ?_⟩
          refine hK.out _ _ trivial (fun hHeld => ?_)
          simp only [Act.put, List.setIfInBounds_toArray, List.set_cons_zero, List.set_cons_succ]
          clear hK K
          refine take_lit (i := 3) (v := .pointer (some ⟨W2.heap.size, i, none⟩)) 9 rfl rfl (by kernel_rfl) (by kernel_rfl) (by kernel_rfl) (fun _ _ _ h => h) (Or.inl ⟨by rfl, fun w hSw => by clear hSw; go_simp; try (intro h9; exact absurd (h9 (by omega)) (by omega))⟩) (by trivial) ?_
          simp only [Act.put, List.setIfInBounds_toArray, List.set_cons_zero, List.set_cons_succ]
          refine wpAnyH_ready (rs := [4, 6]) (by kernel_rfl) (by simp) ?_
          refine AllReadyH.cons rfl (fun K hK => ?_) (AllReadyH.cons rfl (fun K hK => ?_) (AllReadyH.nil))
          · have hc := (cells_of L4.out.k i).trans (ctxRow_at i hi)
            have hv := ctxRow_bd i
            generalize ctxRow.getD i 0 = v at hc hv
            refine step_run2 10 rfl (.int .i64 v) W4 (by kernel_rfl) (by go_simp) ?_
            refine hK.out _ _ trivial (fun hHeld => ?_)
            simp only [Act.put, List.setIfInBounds_toArray, List.set_cons_zero, List.set_cons_succ]
            clear hK K hc
            refine wpAnyH_ready (rs := [6]) (by kernel_rfl) (by simp) ?_
            refine AllReadyH.cons rfl (fun K hK => ?_) (AllReadyH.nil)
            · skip
              refine step_call 12 rfl 26 #[.pointer (some ⟨g, 0, none⟩), .int .i64 6] (by kernel_rfl) (by kernel_rfl) (next_in g 6 _ Q4.out.d (by omega) (by omega)) ?_
              rintro e W6 ⟨q, rfl, q0, q1, hd, hg⟩
              have L6 := Lib.hid (L4.out.call hg)
              have Zs6 := Lib.hid (Zs4.out.call hg)
              have Q6 := Lib.hid (Q4.out.call hlt hd hg)
              clear hd hg
              refine ⟨_, rfl, ?_⟩
              refine hK.out _ _ trivial (fun hHeld => ?_)
              simp only [Act.put, List.setIfInBounds_toArray, List.set_cons_zero, List.set_cons_succ]
              clear hK K
              refine take_lit (i := 7) (v := .int .i64 (1 + q)) 13 rfl rfl (by kernel_rfl) (by kernel_rfl) (by kernel_rfl) (fun _ _ _ h => h) (Or.inl ⟨by rfl, fun w hSw => by go_simp; try (simp [IntKind.wrap, IntKind.signed, IntKind.bits]; omega)⟩) (by trivial) ?_
              simp only [Act.put, List.setIfInBounds_toArray, List.set_cons_zero, List.set_cons_succ]
              refine wpAnyH_ready (rs := [9]) (by kernel_rfl) (by simp) ?_
              refine AllReadyH.cons rfl (fun K hK => ?_) (AllReadyH.nil)
              · skip
                refine step_call 15 rfl 46 #[.pointer (some ⟨g, 0, none⟩), .int .i64 12] (by kernel_rfl) (by kernel_rfl) (bytes_in g 12 W6 Q6.out.d (by omega)) ?_
                rintro e W7 ⟨o, m, c, zs, rfl, hm, mk, ho, hd, hg⟩
                replace ho := Lib.hid ho
                have nB : ∀ x, o = some x → x.block ≠ W1.heap.size := fun x e => by have h1 := (mk.own_ge x.block (by rw [e]; rfl)).1; have h2 := Zs6.out.k.lt; omega
                have M7 := Lib.hid (mk.mono (B' := w.heap.size + 1) Q6.out.zr.lt)
                have L7 := Lib.hid (L6.out.call hg)
                have Zs7 := Lib.hid (Zs6.out.call hg)
                have Q7 := Lib.hid (Q6.out.call hlt hd hg)
                clear hd hg mk
                refine ⟨_, rfl, ?_⟩
                refine hK.out _ _ trivial (fun hHeld => ?_)
                simp only [Act.put, List.setIfInBounds_toArray, List.set_cons_zero, List.set_cons_succ]
                clear hK K
                refine take_lit (i := 10) (v := sm0V v (1 + q) o m c) 16 rfl rfl (by kernel_rfl) (by kernel_rfl) (by kernel_rfl) (fun _ _ _ h => h) (Or.inl ⟨by rfl, fun w _ => by kernel_rfl⟩) (by trivial) ?_
                simp only [Act.put, List.setIfInBounds_toArray, List.set_cons_zero, List.set_cons_succ]
                refine wpAnyH_ready (rs := [12]) (by kernel_rfl) (by simp) ?_
                refine AllReadyH.cons rfl (ready_store (n := 26) (by kernel_rfl) rfl (.tmp 3) (.tmp 16) rfl rfl rfl Zs7.out.k rfl rfl info_sm (by simp [Value.oneCell']) ?_) AllReadyH.nil
                intro W8 K9 G9
                have Zk := Lib.hid (show Blk 28 W8 _ _ from K9)
                have Q8 := Lib.hid (Q7.out.row G9 Zs7.out.n hB)
                have M8 := Lib.hid (M7.out.keepRow G9 (own_ne nB))
                refine ⟨trivial, fun hHeld => ?_⟩
                clear K9 G9
                refine wpAnyH_done (by kernel_rfl) ?_ _
                refine NoPanic.normal ?_
                go_wp2_with fail
                go_meet
                exact ⟨_, _, ⟨v, 1 + q, 0, 0, 0, 0, 0, ⟨0, 0, 0, 0, 0, 0, 0, 0, 0, 0, 0, 0, 0, 0, 0⟩, 0, 0, 0, o, m, c, zs⟩, rfl, rfl, ⟨Q8.out, Zk.out, ⟨M8.out, ho.out, hm, nB⟩, hB⟩, ⟨hv, by dsimp only; omega, rfl, rfl, rfl, rfl, rfl, rfl, rfl, rfl, rfl⟩⟩
          · skip
            refine step_call 12 rfl 26 #[.pointer (some ⟨g, 0, none⟩), .int .i64 6] (by kernel_rfl) (by kernel_rfl) (next_in g 6 _ Q4.out.d (by omega) (by omega)) ?_
            rintro e W5 ⟨q, rfl, q0, q1, hd, hg⟩
            have L5 := Lib.hid (L4.out.call hg)
            have Zs5 := Lib.hid (Zs4.out.call hg)
            have Q5 := Lib.hid (Q4.out.call hlt hd hg)
            clear hd hg
            refine ⟨_, rfl, ?_⟩
            refine hK.out _ _ trivial (fun hHeld => ?_)
            simp only [Act.put, List.setIfInBounds_toArray, List.set_cons_zero, List.set_cons_succ]
            clear hK K
            refine take_lit (i := 7) (v := .int .i64 (1 + q)) 13 rfl rfl (by kernel_rfl) (by kernel_rfl) (by kernel_rfl) (fun _ _ _ h => h) (Or.inl ⟨by rfl, fun w hSw => by go_simp; try (simp [IntKind.wrap, IntKind.signed, IntKind.bits]; omega)⟩) (by trivial) ?_
            simp only [Act.put, List.setIfInBounds_toArray, List.set_cons_zero, List.set_cons_succ]
            refine wpAnyH_ready (rs := [4, 9]) (by kernel_rfl) (by simp) ?_
            refine AllReadyH.cons rfl (fun K hK => ?_) (AllReadyH.cons rfl (fun K hK => ?_) (AllReadyH.nil))
            · have hc := (cells_of L5.out.k i).trans (ctxRow_at i hi)
              have hv := ctxRow_bd i
              generalize ctxRow.getD i 0 = v at hc hv
              refine step_run2 10 rfl (.int .i64 v) W5 (by kernel_rfl) (by go_simp) ?_
              refine hK.out _ _ trivial (fun hHeld => ?_)
              simp only [Act.put, List.setIfInBounds_toArray, List.set_cons_zero, List.set_cons_succ]
              clear hK K hc
              refine wpAnyH_ready (rs := [9]) (by kernel_rfl) (by simp) ?_
              refine AllReadyH.cons rfl (fun K hK => ?_) (AllReadyH.nil)
              · skip
                refine step_call 15 rfl 46 #[.pointer (some ⟨g, 0, none⟩), .int .i64 12] (by kernel_rfl) (by kernel_rfl) (bytes_in g 12 W5 Q5.out.d (by omega)) ?_
                rintro e W7 ⟨o, m, c, zs, rfl, hm, mk, ho, hd, hg⟩
                replace ho := Lib.hid ho
                have nB : ∀ x, o = some x → x.block ≠ W1.heap.size := fun x e => by have h1 := (mk.own_ge x.block (by rw [e]; rfl)).1; have h2 := Zs5.out.k.lt; omega
                have M7 := Lib.hid (mk.mono (B' := w.heap.size + 1) Q5.out.zr.lt)
                have L7 := Lib.hid (L5.out.call hg)
                have Zs7 := Lib.hid (Zs5.out.call hg)
                have Q7 := Lib.hid (Q5.out.call hlt hd hg)
                clear hd hg mk
                refine ⟨_, rfl, ?_⟩
                refine hK.out _ _ trivial (fun hHeld => ?_)
                simp only [Act.put, List.setIfInBounds_toArray, List.set_cons_zero, List.set_cons_succ]
                clear hK K
                refine take_lit (i := 10) (v := sm0V v (1 + q) o m c) 16 rfl rfl (by kernel_rfl) (by kernel_rfl) (by kernel_rfl) (fun _ _ _ h => h) (Or.inl ⟨by rfl, fun w _ => by kernel_rfl⟩) (by trivial) ?_
                simp only [Act.put, List.setIfInBounds_toArray, List.set_cons_zero, List.set_cons_succ]
                refine wpAnyH_ready (rs := [12]) (by kernel_rfl) (by simp) ?_
                refine AllReadyH.cons rfl (ready_store (n := 26) (by kernel_rfl) rfl (.tmp 3) (.tmp 16) rfl rfl rfl Zs7.out.k rfl rfl info_sm (by simp [Value.oneCell']) ?_) AllReadyH.nil
                intro W8 K9 G9
                have Zk := Lib.hid (show Blk 28 W8 _ _ from K9)
                have Q8 := Lib.hid (Q7.out.row G9 Zs7.out.n hB)
                have M8 := Lib.hid (M7.out.keepRow G9 (own_ne nB))
                refine ⟨trivial, fun hHeld => ?_⟩
                clear K9 G9
                refine wpAnyH_done (by kernel_rfl) ?_ _
                refine NoPanic.normal ?_
                go_wp2_with fail
                go_meet
                exact ⟨_, _, ⟨v, 1 + q, 0, 0, 0, 0, 0, ⟨0, 0, 0, 0, 0, 0, 0, 0, 0, 0, 0, 0, 0, 0, 0⟩, 0, 0, 0, o, m, c, zs⟩, rfl, rfl, ⟨Q8.out, Zk.out, ⟨M8.out, ho.out, hm, nB⟩, hB⟩, ⟨hv, by dsimp only; omega, rfl, rfl, rfl, rfl, rfl, rfl, rfl, rfl, rfl⟩⟩
            · skip
              refine step_call 15 rfl 46 #[.pointer (some ⟨g, 0, none⟩), .int .i64 12] (by kernel_rfl) (by kernel_rfl) (bytes_in g 12 W5 Q5.out.d (by omega)) ?_
              rintro e W6 ⟨o, m, c, zs, rfl, hm, mk, ho, hd, hg⟩
              replace ho := Lib.hid ho
              have nB : ∀ x, o = some x → x.block ≠ W1.heap.size := fun x e => by have h1 := (mk.own_ge x.block (by rw [e]; rfl)).1; have h2 := Zs5.out.k.lt; omega
              have M6 := Lib.hid (mk.mono (B' := w.heap.size + 1) Q5.out.zr.lt)
              have L6 := Lib.hid (L5.out.call hg)
              have Zs6 := Lib.hid (Zs5.out.call hg)
              have Q6 := Lib.hid (Q5.out.call hlt hd hg)
              clear hd hg mk
              refine ⟨_, rfl, ?_⟩
              refine hK.out _ _ trivial (fun hHeld => ?_)
              simp only [Act.put, List.setIfInBounds_toArray, List.set_cons_zero, List.set_cons_succ]
              clear hK K
              refine wpAnyH_ready (rs := [4]) (by kernel_rfl) (by simp) ?_
              refine AllReadyH.cons rfl (fun K hK => ?_) (AllReadyH.nil)
              · have hc := (cells_of L6.out.k i).trans (ctxRow_at i hi)
                have hv := ctxRow_bd i
                generalize ctxRow.getD i 0 = v at hc hv
                refine step_run2 10 rfl (.int .i64 v) W6 (by kernel_rfl) (by go_simp) ?_
                refine hK.out _ _ trivial (fun hHeld => ?_)
                simp only [Act.put, List.setIfInBounds_toArray, List.set_cons_zero, List.set_cons_succ]
                clear hK K hc
                refine take_lit (i := 10) (v := sm0V v (1 + q) o m c) 16 rfl rfl (by kernel_rfl) (by kernel_rfl) (by kernel_rfl) (fun _ _ _ h => h) (Or.inl ⟨by rfl, fun w _ => by kernel_rfl⟩) (by trivial) ?_
                simp only [Act.put, List.setIfInBounds_toArray, List.set_cons_zero, List.set_cons_succ]
                refine wpAnyH_ready (rs := [12]) (by kernel_rfl) (by simp) ?_
                refine AllReadyH.cons rfl (ready_store (n := 26) (by kernel_rfl) rfl (.tmp 3) (.tmp 16) rfl rfl rfl Zs6.out.k rfl rfl info_sm (by simp [Value.oneCell']) ?_) AllReadyH.nil
                intro W8 K9 G9
                have Zk := Lib.hid (show Blk 28 W8 _ _ from K9)
                have Q8 := Lib.hid (Q6.out.row G9 Zs6.out.n hB)
                have M8 := Lib.hid (M6.out.keepRow G9 (own_ne nB))
                refine ⟨trivial, fun hHeld => ?_⟩
                clear K9 G9
                refine wpAnyH_done (by kernel_rfl) ?_ _
                refine NoPanic.normal ?_
                go_wp2_with fail
                go_meet
                exact ⟨_, _, ⟨v, 1 + q, 0, 0, 0, 0, 0, ⟨0, 0, 0, 0, 0, 0, 0, 0, 0, 0, 0, 0, 0, 0, 0⟩, 0, 0, 0, o, m, c, zs⟩, rfl, rfl, ⟨Q8.out, Zk.out, ⟨M8.out, ho.out, hm, nB⟩, hB⟩, ⟨hv, by dsimp only; omega, rfl, rfl, rfl, rfl, rfl, rfl, rfl, rfl, rfl⟩⟩
      · skip
        refine step_call 8 rfl 26 #[.pointer (some ⟨g, 0, none⟩), .int .i64 4] (by kernel_rfl) (by kernel_rfl) (next_in g 4 _ Q2.out.d (by omega) (by omega)) ?_
        rintro e W3 ⟨x, rfl, x0, x1, hd, hg⟩
        obtain ⟨i, rfl⟩ := Int.eq_ofNat_of_zero_le x0
        have hi : i < 4 := by omega
        have hI : (i : Int) < 4 := by omega
        have Zs3 := Lib.hid (Zs2.out.call hg)
        have Q3 := Lib.hid (Q2.out.call hlt hd hg)
        clear hd hg
        refine ⟨_, rfl, ?_⟩
        refine hK.out _ _ trivial (fun hHeld => ?_)
        simp only [Act.put, List.setIfInBounds_toArray, List.set_cons_zero, List.set_cons_succ]
        clear hK K
        refine wpAnyH_ready (rs := [0, 6]) (by kernel_rfl) (by simp) ?_
        refine AllReadyH.cons rfl (fun K hK => ?_) (AllReadyH.cons rfl (fun K hK => ?_) (AllReadyH.nil))
        · skip
          have Q4 := Lib.hid (Q3.out.alloc (.cells #[.int .i64 0, .int .i64 0, .int .i64 1, .int .i64 15] 3))
          have Zs4 := Lib.hid (Zs3.out.alloc (.cells #[.int .i64 0, .int .i64 0, .int .i64 1, .int .i64 15] 3))
          have L4 := Lib.hid (OB.new (g := g) (W := W3) 3 #[.int .i64 0, .int .i64 0, .int .i64 1, .int .i64 15] Q3.out.d.lt)
          refine step_run2 6 rfl (.slice (some ⟨W3.heap.size, 0, none⟩) 4 4) (W3.alloc (.cells #[.int .i64 0, .int .i64 0, .int .i64 1, .int .i64 15] 3)) (by kernel_rfl) (by kernel_rfl) ?_
          refine hK.out _ _ trivial (fun hHeld => ?_)
          simp only [Act.put, List.setIfInBounds_toArray, List.set_cons_zero, List.set_cons_succ]
          clear hK K
          generalize hW4 : W3.alloc (.cells #[.int .i64 0, .int .i64 0, .int .i64 1, .int .i64 15] 3) = W4 at Q4 L4 Zs4 ⊢
          clear hW4
          refine take_lit (i := 3) (v := .pointer (some ⟨W3.heap.size, i, none⟩)) 9 rfl rfl (by kernel_rfl) (by kernel_rfl) (by kernel_rfl) (fun _ _ _ h => h) (Or.inl ⟨by rfl, fun w hSw => by clear hSw; go_simp; try (intro h9; exact absurd (h9 (by omega)) (by omega))⟩) (by trivial) ?_
          simp only [Act.put, List.setIfInBounds_toArray, List.set_cons_zero, List.set_cons_succ]
          refine wpAnyH_ready (rs := [4, 6]) (by kernel_rfl) (by simp) ?_
          refine AllReadyH.cons rfl (fun K hK => ?_) (AllReadyH.cons rfl (fun K hK => ?_) (AllReadyH.nil))
          · have hc := (cells_of L4.out.k i).trans (ctxRow_at i hi)
            have hv := ctxRow_bd i
            generalize ctxRow.getD i 0 = v at hc hv
            refine step_run2 10 rfl (.int .i64 v) W4 (by kernel_rfl) (by go_simp) ?_
            refine hK.out _ _ trivial (fun hHeld => ?_)
            simp only [Act.put, List.setIfInBounds_toArray, List.set_cons_zero, List.set_cons_succ]
            clear hK K hc
            refine wpAnyH_ready (rs := [6]) (by kernel_rfl) (by simp) ?_
            refine AllReadyH.cons rfl (fun K hK => ?_) (AllReadyH.nil)
            · skip
              refine step_call 12 rfl 26 #[.pointer (some ⟨g, 0, none⟩), .int .i64 6] (by kernel_rfl) (by kernel_rfl) (next_in g 6 _ Q4.out.d (by omega) (by omega)) ?_
              rintro e W6 ⟨q, rfl, q0, q1, hd, hg⟩
              have L6 := Lib.hid (L4.out.call hg)
              have Zs6 := Lib.hid (Zs4.out.call hg)
              have Q6 := Lib.hid (Q4.out.call hlt hd hg)
              clear hd hg
              refine ⟨_, rfl, ?_⟩
              refine hK.out _ _ trivial (fun hHeld => ?_)
              simp only [Act.put, List.setIfInBounds_toArray, List.set_cons_zero, List.set_cons_succ]
              clear hK K
              refine take_lit (i := 7) (v := .int .i64 (1 + q)) 13 rfl rfl (by kernel_rfl) (by kernel_rfl) (by kernel_rfl) (fun _ _ _ h => h) (Or.inl ⟨by rfl, fun w hSw => by go_simp; try (simp [IntKind.wrap, IntKind.signed, IntKind.bits]; omega)⟩) (by trivial) ?_
              simp only [Act.put, List.setIfInBounds_toArray, List.set_cons_zero, List.set_cons_succ]
              refine wpAnyH_ready (rs := [9]) (by kernel_rfl) (by simp) ?_
              refine AllReadyH.cons rfl (fun K hK => ?_) (AllReadyH.nil)
              · skip
                refine step_call 15 rfl 46 #[.pointer (some ⟨g, 0, none⟩), .int .i64 12] (by kernel_rfl) (by kernel_rfl) (bytes_in g 12 W6 Q6.out.d (by omega)) ?_
                rintro e W7 ⟨o, m, c, zs, rfl, hm, mk, ho, hd, hg⟩
                replace ho := Lib.hid ho
                have nB : ∀ x, o = some x → x.block ≠ W1.heap.size := fun x e => by have h1 := (mk.own_ge x.block (by rw [e]; rfl)).1; have h2 := Zs6.out.k.lt; omega
                have M7 := Lib.hid (mk.mono (B' := w.heap.size + 1) Q6.out.zr.lt)
                have L7 := Lib.hid (L6.out.call hg)
                have Zs7 := Lib.hid (Zs6.out.call hg)
                have Q7 := Lib.hid (Q6.out.call hlt hd hg)
                clear hd hg mk
                refine ⟨_, rfl, ?_⟩
                refine hK.out _ _ trivial (fun hHeld => ?_)
                simp only [Act.put, List.setIfInBounds_toArray, List.set_cons_zero, List.set_cons_succ]
                clear hK K
                refine take_lit (i := 10) (v := sm0V v (1 + q) o m c) 16 rfl rfl (by kernel_rfl) (by kernel_rfl) (by kernel_rfl) (fun _ _ _ h => h) (Or.inl ⟨by rfl, fun w _ => by kernel_rfl⟩) (by trivial) ?_
                simp only [Act.put, List.setIfInBounds_toArray, List.set_cons_zero, List.set_cons_succ]
                refine wpAnyH_ready (rs := [12]) (by kernel_rfl) (by simp) ?_
                refine AllReadyH.cons rfl (ready_store (n := 26) (by kernel_rfl) rfl (.tmp 3) (.tmp 16) rfl rfl rfl Zs7.out.k rfl rfl info_sm (by simp [Value.oneCell']) ?_) AllReadyH.nil
                intro W8 K9 G9
                have Zk := Lib.hid (show Blk 28 W8 _ _ from K9)
                have Q8 := Lib.hid (Q7.out.row G9 Zs7.out.n hB)
                have M8 := Lib.hid (M7.out.keepRow G9 (own_ne nB))
                refine ⟨trivial, fun hHeld => ?_⟩
                clear K9 G9
                refine wpAnyH_done (by kernel_rfl) ?_ _
                refine NoPanic.normal ?_
                go_wp2_with fail
                go_meet
                exact ⟨_, _, ⟨v, 1 + q, 0, 0, 0, 0, 0, ⟨0, 0, 0, 0, 0, 0, 0, 0, 0, 0, 0, 0, 0, 0, 0⟩, 0, 0, 0, o, m, c, zs⟩, rfl, rfl, ⟨Q8.out, Zk.out, ⟨M8.out, ho.out, hm, nB⟩, hB⟩, ⟨hv, by dsimp only; omega, rfl, rfl, rfl, rfl, rfl, rfl, rfl, rfl, rfl⟩⟩
          · skip
            refine step_call 12 rfl 26 #[.pointer (some ⟨g, 0, none⟩), .int .i64 6] (by kernel_rfl) (by kernel_rfl) (next_in g 6 _ Q4.out.d (by omega) (by omega)) ?_
            rintro e W5 ⟨q, rfl, q0, q1, hd, hg⟩
            have L5 := Lib.hid (L4.out.call hg)
            have Zs5 := Lib.hid (Zs4.out.call hg)
            have Q5 := Lib.hid (Q4.out.call hlt hd hg)
            clear hd hg
            refine ⟨_, rfl, ?_⟩
            refine hK.out _ _ trivial (fun hHeld => ?_)
            simp only [Act.put, List.setIfInBounds_toArray, List.set_cons_zero, List.set_cons_succ]
            clear hK K
            refine take_lit (i := 7) (v := .int .i64 (1 + q)) 13 rfl rfl (by kernel_rfl) (by kernel_rfl) (by kernel_rfl) (fun _ _ _ h => h) (Or.inl ⟨by rfl, fun w hSw => by go_simp; try (simp [IntKind.wrap, IntKind.signed, IntKind.bits]; omega)⟩) (by trivial) ?_
            simp only [Act.put, List.setIfInBounds_toArray, List.set_cons_zero, List.set_cons_succ]
            refine wpAnyH_ready (rs := [4, 9]) (by kernel_rfl) (by simp) ?_
            refine AllReadyH.cons rfl (fun K hK => ?_) (AllReadyH.cons rfl (fun K hK => ?_) (AllReadyH.nil))
            · have hc := (cells_of L5.out.k i).trans (ctxRow_at i hi)
              have hv := ctxRow_bd i
              generalize ctxRow.getD i 0 = v at hc hv
              refine step_run2 10 rfl (.int .i64 v) W5 (by kernel_rfl) (by go_simp) ?_
              refine hK.out _ _ trivial (fun hHeld => ?_)
              simp only [Act.put, List.setIfInBounds_toArray, List.set_cons_zero, List.set_cons_succ]
              clear hK K hc
              refine wpAnyH_ready (rs := [9]) (by kernel_rfl) (by simp) ?_
              refine AllReadyH.cons rfl (fun K hK => ?_) (AllReadyH.nil)
              · skip
                refine step_call 15 rfl 46 #[.pointer (some ⟨g, 0, none⟩), .int .i64 12] (by kernel_rfl) (by kernel_rfl) (bytes_in g 12 W5 Q5.out.d (by omega)) ?_
                rintro e W7 ⟨o, m, c, zs, rfl, hm, mk, ho, hd, hg⟩
                replace ho := Lib.hid ho
                have nB : ∀ x, o = some x → x.block ≠ W1.heap.size := fun x e => by have h1 := (mk.own_ge x.block (by rw [e]; rfl)).1; have h2 := Zs5.out.k.lt; omega
                have M7 := Lib.hid (mk.mono (B' := w.heap.size + 1) Q5.out.zr.lt)
                have L7 := Lib.hid (L5.out.call hg)
                have Zs7 := Lib.hid (Zs5.out.call hg)
                have Q7 := Lib.hid (Q5.out.call hlt hd hg)
                clear hd hg mk
                refine ⟨_, rfl, ?_⟩
                refine hK.out _ _ trivial (fun hHeld => ?_)
                simp only [Act.put, List.setIfInBounds_toArray, List.set_cons_zero, List.set_cons_succ]
                clear hK K
                refine take_lit (i := 10) (v := sm0V v (1 + q) o m c) 16 rfl rfl (by kernel_rfl) (by kernel_rfl) (by kernel_rfl) (fun _ _ _ h => h) (Or.inl ⟨by rfl, fun w _ => by kernel_rfl⟩) (by trivial) ?_
                simp only [Act.put, List.setIfInBounds_toArray, List.set_cons_zero, List.set_cons_succ]
                refine wpAnyH_ready (rs := [12]) (by kernel_rfl) (by simp) ?_
                refine AllReadyH.cons rfl (ready_store (n := 26) (by kernel_rfl) rfl (.tmp 3) (.tmp 16) rfl rfl rfl Zs7.out.k rfl rfl info_sm (by simp [Value.oneCell']) ?_) AllReadyH.nil
                intro W8 K9 G9
                have Zk := Lib.hid (show Blk 28 W8 _ _ from K9)
                have Q8 := Lib.hid (Q7.out.row G9 Zs7.out.n hB)
                have M8 := Lib.hid (M7.out.keepRow G9 (own_ne nB))
                refine ⟨trivial, fun hHeld => ?_⟩
                clear K9 G9
                refine wpAnyH_done (by kernel_rfl) ?_ _
                refine NoPanic.normal ?_
                go_wp2_with fail
                go_meet
                exact ⟨_, _, ⟨v, 1 + q, 0, 0, 0, 0, 0, ⟨0, 0, 0, 0, 0, 0, 0, 0, 0, 0, 0, 0, 0, 0, 0⟩, 0, 0, 0, o, m, c, zs⟩, rfl, rfl, ⟨Q8.out, Zk.out, ⟨M8.out, ho.out, hm, nB⟩, hB⟩, ⟨hv, by dsimp only; omega, rfl, rfl, rfl, rfl, rfl, rfl, rfl, rfl, rfl⟩⟩
            · skip
              refine step_call 15 rfl 46 #[.pointer (some ⟨g, 0, none⟩), .int .i64 12] (by kernel_rfl) (by kernel_rfl) (bytes_in g 12 W5 Q5.out.d (by omega)) ?_
              rintro e W6 ⟨o, m, c, zs, rfl, hm, mk, ho, hd, hg⟩
              replace ho := Lib.hid ho
              have nB : ∀ x, o = some x → x.block ≠ W1.heap.size := fun x e => by have h1 := (mk.own_ge x.block (by rw [e]; rfl)).1; have h2 := Zs5.out.k.lt; omega
              have M6 := Lib.hid (mk.mono (B' := w.heap.size + 1) Q5.out.zr.lt)
              have L6 := Lib.hid (L5.out.call hg)
              have Zs6 := Lib.hid (Zs5.out.call hg)
              have Q6 := Lib.hid (Q5.out.call hlt hd hg)
              clear hd hg mk
              refine ⟨_, rfl, ?_⟩
              refine hK.out _ _ trivial (fun hHeld => ?_)
              simp only [Act.put, List.setIfInBounds_toArray, List.set_cons_zero, List.set_cons_succ]
              clear hK K
              refine wpAnyH_ready (rs := [4]) (by kernel_rfl) (by simp) ?_
              refine AllReadyH.cons rfl (fun K hK => ?_) (AllReadyH.nil)
              · have hc := (cells_of L6.out.k i).trans (ctxRow_at i hi)
                have hv := ctxRow_bd i
                generalize ctxRow.getD i 0 = v at hc hv
                refine step_run2 10 rfl (.int .i64 v) W6 (by kernel_rfl) (by go_simp) ?_
                refine hK.out _ _ trivial (fun hHeld => ?_)
                simp only [Act.put, List.setIfInBounds_toArray, List.set_cons_zero, List.set_cons_succ]
                clear hK K hc
                refine take_lit (i := 10) (v := sm0V v (1 + q) o m c) 16 rfl rfl (by kernel_rfl) (by kernel_rfl) (by kernel_rfl) (fun _ _ _ h => h) (Or.inl ⟨by rfl, fun w _ => by kernel_rfl⟩) (by trivial) ?_
                simp only [Act.put, List.setIfInBounds_toArray, List.set_cons_zero, List.set_cons_succ]
                refine wpAnyH_ready (rs := [12]) (by kernel_rfl) (by simp) ?_
                refine AllReadyH.cons rfl (ready_store (n := 26) (by kernel_rfl) rfl (.tmp 3) (.tmp 16) rfl rfl rfl Zs6.out.k rfl rfl info_sm (by simp [Value.oneCell']) ?_) AllReadyH.nil
                intro W8 K9 G9
                have Zk := Lib.hid (show Blk 28 W8 _ _ from K9)
                have Q8 := Lib.hid (Q6.out.row G9 Zs6.out.n hB)
                have M8 := Lib.hid (M6.out.keepRow G9 (own_ne nB))
                refine ⟨trivial, fun hHeld => ?_⟩
                clear K9 G9
                refine wpAnyH_done (by kernel_rfl) ?_ _
                refine NoPanic.normal ?_
                go_wp2_with fail
                go_meet
                exact ⟨_, _, ⟨v, 1 + q, 0, 0, 0, 0, 0, ⟨0, 0, 0, 0, 0, 0, 0, 0, 0, 0, 0, 0, 0, 0, 0⟩, 0, 0, 0, o, m, c, zs⟩, rfl, rfl, ⟨Q8.out, Zk.out, ⟨M8.out, ho.out, hm, nB⟩, hB⟩, ⟨hv, by dsimp only; omega, rfl, rfl, rfl, rfl, rfl, rfl, rfl, rfl, rfl⟩⟩
        · skip
          refine step_call 12 rfl 26 #[.pointer (some ⟨g, 0, none⟩), .int .i64 6] (by kernel_rfl) (by kernel_rfl) (next_in g 6 _ Q3.out.d (by omega) (by omega)) ?_
          rintro e W4 ⟨q, rfl, q0, q1, hd, hg⟩
          have Zs4 := Lib.hid (Zs3.out.call hg)
          have Q4 := Lib.hid (Q3.out.call hlt hd hg)
          clear hd hg
          refine ⟨_, rfl, ?_⟩
          refine hK.out _ _ trivial (fun hHeld => ?_)
          simp only [Act.put, List.setIfInBounds_toArray, List.set_cons_zero, List.set_cons_succ]
          clear hK K
          refine take_lit (i := 7) (v := .int .i64 (1 + q)) 13 rfl rfl (by kernel_rfl) (by kernel_rfl) (by kernel_rfl) (fun _ _ _ h => h) (Or.inl ⟨by rfl, fun w hSw => by go_simp; try (simp [IntKind.wrap, IntKind.signed, IntKind.bits]; omega)⟩) (by trivial) ?_
          simp only [Act.put, List.setIfInBounds_toArray, List.set_cons_zero, List.set_cons_succ]
          refine wpAnyH_ready (rs := [0, 9]) (by kernel_rfl) (by simp) ?_
          refine AllReadyH.cons rfl (fun K hK => ?_) (AllReadyH.cons rfl (fun K hK => ?_) (AllReadyH.nil))
          · skip
            have Q5 := Lib.hid (Q4.out.alloc (.cells #[.int .i64 0, .int .i64 0, .int .i64 1, .int .i64 15] 3))
            have Zs5 := Lib.hid (Zs4.out.alloc (.cells #[.int .i64 0, .int .i64 0, .int .i64 1, .int .i64 15] 3))
            have L5 := Lib.hid (OB.new (g := g) (W := W4) 3 #[.int .i64 0, .int .i64 0, .int .i64 1, .int .i64 15] Q4.out.d.lt)
            refine step_run2 6 rfl (.slice (some ⟨W4.heap.size, 0, none⟩) 4 4) (W4.alloc (.cells #[.int .i64 0, .int .i64 0, .int .i64 1, .int .i64 15] 3)) (by kernel_rfl) (by kernel_rfl) ?_
            refine hK.out _ _ trivial (fun hHeld => ?_)
            simp only [Act.put, List.setIfInBounds_toArray, List.set_cons_zero, List.set_cons_succ]
            clear hK K
            generalize hW5 : W4.alloc (.cells #[.int .i64 0, .int .i64 0, .int .i64 1, .int .i64 15] 3) = W5 at Q5 L5 Zs5 ⊢
            clear hW5
            refine take_lit (i := 3) (v := .pointer (some ⟨W4.heap.size, i, none⟩)) 9 rfl rfl (by kernel_rfl) (by kernel_rfl) (by kernel_rfl) (fun _ _ _ h => h) (Or.inl ⟨by rfl, fun w hSw => by clear hSw; go_simp; try (intro h9; exact absurd (h9 (by omega)) (by omega))⟩) (by trivial) ?_
            simp only [Act.put, List.setIfInBounds_toArray, List.set_cons_zero, List.set_cons_succ]
            refine wpAnyH_ready (rs := [4, 9]) (by kernel_rfl) (by simp) ?_
            refine AllReadyH.cons rfl (fun K hK => ?_) (AllReadyH.cons rfl (fun K hK => ?_) (AllReadyH.nil))
            · have hc := (cells_of L5.out.k i).trans (ctxRow_at i hi)
              have hv := ctxRow_bd i
              generalize ctxRow.getD i 0 = v at hc hv
              refine step_run2 10 rfl (.int .i64 v) W5 (by kernel_rfl) (by go_simp) ?_
              refine hK.out _ _ trivial (fun hHeld => ?_)
              simp only [Act.put, List.setIfInBounds_toArray, List.set_cons_zero, List.set_cons_succ]
              clear hK K hc
              refine wpAnyH_ready (rs := [9]) (by kernel_rfl) (by simp) ?_
              refine AllReadyH.cons rfl (fun K hK => ?_) (AllReadyH.nil)
              · skip
                refine step_call 15 rfl 46 #[.pointer (some ⟨g, 0, none⟩), .int .i64 12] (by kernel_rfl) (by kernel_rfl) (bytes_in g 12 W5 Q5.out.d (by omega)) ?_
                rintro e W7 ⟨o, m, c, zs, rfl, hm, mk, ho, hd, hg⟩
                replace ho := Lib.hid ho
                have nB : ∀ x, o = some x → x.block ≠ W1.heap.size := fun x e => by have h1 := (mk.own_ge x.block (by rw [e]; rfl)).1; have h2 := Zs5.out.k.lt; omega
                have M7 := Lib.hid (mk.mono (B' := w.heap.size + 1) Q5.out.zr.lt)
                have L7 := Lib.hid (L5.out.call hg)
                have Zs7 := Lib.hid (Zs5.out.call hg)
                have Q7 := Lib.hid (Q5.out.call hlt hd hg)
                clear hd hg mk
                refine ⟨_, rfl, ?_⟩
                refine hK.out _ _ trivial (fun hHeld => ?_)
                simp only [Act.put, List.setIfInBounds_toArray, List.set_cons_zero, List.set_cons_succ]
                clear hK K
                refine take_lit (i := 10) (v := sm0V v (1 + q) o m c) 16 rfl rfl (by kernel_rfl) (by kernel_rfl) (by kernel_rfl) (fun _ _ _ h => h) (Or.inl ⟨by rfl, fun w _ => by kernel_rfl⟩) (by trivial) ?_
                simp only [Act.put, List.setIfInBounds_toArray, List.set_cons_zero, List.set_cons_succ]
                refine wpAnyH_ready (rs := [12]) (by kernel_rfl) (by simp) ?_
                refine AllReadyH.cons rfl (ready_store (n := 26) (by kernel_rfl) rfl (.tmp 3) (.tmp 16) rfl rfl rfl Zs7.out.k rfl rfl info_sm (by simp [Value.oneCell']) ?_) AllReadyH.nil
                intro W8 K9 G9
                have Zk := Lib.hid (show Blk 28 W8 _ _ from K9)
                have Q8 := Lib.hid (Q7.out.row G9 Zs7.out.n hB)
                have M8 := Lib.hid (M7.out.keepRow G9 (own_ne nB))
                refine ⟨trivial, fun hHeld => ?_⟩
                clear K9 G9
                refine wpAnyH_done (by kernel_rfl) ?_ _
                refine NoPanic.normal ?_
                go_wp2_with fail
                go_meet
                exact ⟨_, _, ⟨v, 1 + q, 0, 0, 0, 0, 0, ⟨0, 0, 0, 0, 0, 0, 0, 0, 0, 0, 0, 0, 0, 0, 0⟩, 0, 0, 0, o, m, c, zs⟩, rfl, rfl, ⟨Q8.out, Zk.out, ⟨M8.out, ho.out, hm, nB⟩, hB⟩, ⟨hv, by dsimp only; omega, rfl, rfl, rfl, rfl, rfl, rfl, rfl, rfl, rfl⟩⟩
            · skip
              refine step_call 15 rfl 46 #[.pointer (some ⟨g, 0, none⟩), .int .i64 12] (by kernel_rfl) (by kernel_rfl) (bytes_in g 12 W5 Q5.out.d (by omega)) ?_
              rintro e W6 ⟨o, m, c, zs, rfl, hm, mk, ho, hd, hg⟩
              replace ho := Lib.hid ho
              have nB : ∀ x, o = some x → x.block ≠ W1.heap.size := fun x e => by have h1 := (mk.own_ge x.block (by rw [e]; rfl)).1; have h2 := Zs5.out.k.lt; omega
              have M6 := Lib.hid (mk.mono (B' := w.heap.size + 1) Q5.out.zr.lt)
              have L6 := Lib.hid (L5.out.call hg)
              have Zs6 := Lib.hid (Zs5.out.call hg)
              have Q6 := Lib.hid (Q5.out.call hlt hd hg)
              clear hd hg mk
              refine ⟨_, rfl, ?_⟩
              refine hK.out _ _ trivial (fun hHeld => ?_)
              simp only [Act.put, List.setIfInBounds_toArray, List.set_cons_zero, List.set_cons_succ]
              clear hK K
              refine wpAnyH_ready (rs := [4]) (by kernel_rfl) (by simp) ?_
              refine AllReadyH.cons rfl (fun K hK => ?_) (AllReadyH.nil)
              · have hc := (cells_of L6.out.k i).trans (ctxRow_at i hi)
                have hv := ctxRow_bd i
                generalize ctxRow.getD i 0 = v at hc hv
                refine step_run2 10 rfl (.int .i64 v) W6 (by kernel_rfl) (by go_simp) ?_
                refine hK.out _ _ trivial (fun hHeld => ?_)
                simp only [Act.put, List.setIfInBounds_toArray, List.set_cons_zero, List.set_cons_succ]
                clear hK K hc
                refine take_lit (i := 10) (v := sm0V v (1 + q) o m c) 16 rfl rfl (by kernel_rfl) (by kernel_rfl) (by kernel_rfl) (fun _ _ _ h => h) (Or.inl ⟨by rfl, fun w _ => by kernel_rfl⟩) (by trivial) ?_
                simp only [Act.put, List.setIfInBounds_toArray, List.set_cons_zero, List.set_cons_succ]
                refine wpAnyH_ready (rs := [12]) (by kernel_rfl) (by simp) ?_
                refine AllReadyH.cons rfl (ready_store (n := 26) (by kernel_rfl) rfl (.tmp 3) (.tmp 16) rfl rfl rfl Zs6.out.k rfl rfl info_sm (by simp [Value.oneCell']) ?_) AllReadyH.nil
                intro W8 K9 G9
                have Zk := Lib.hid (show Blk 28 W8 _ _ from K9)
                have Q8 := Lib.hid (Q6.out.row G9 Zs6.out.n hB)
                have M8 := Lib.hid (M6.out.keepRow G9 (own_ne nB))
                refine ⟨trivial, fun hHeld => ?_⟩
                clear K9 G9
                refine wpAnyH_done (by kernel_rfl) ?_ _
                refine NoPanic.normal ?_
                go_wp2_with fail
                go_meet
                exact ⟨_, _, ⟨v, 1 + q, 0, 0, 0, 0, 0, ⟨0, 0, 0, 0, 0, 0, 0, 0, 0, 0, 0, 0, 0, 0, 0⟩, 0, 0, 0, o, m, c, zs⟩, rfl, rfl, ⟨Q8.out, Zk.out, ⟨M8.out, ho.out, hm, nB⟩, hB⟩, ⟨hv, by dsimp only; omega, rfl, rfl, rfl, rfl, rfl, rfl, rfl, rfl, rfl⟩⟩
          · skip
            refine step_call 15 rfl 46 #[.pointer (some ⟨g, 0, none⟩), .int .i64 12] (by kernel_rfl) (by kernel_rfl) (bytes_in g 12 W4 Q4.out.d (by omega)) ?_
            rintro e W5 ⟨o, m, c, zs, rfl, hm, mk, ho, hd, hg⟩
            replace ho := Lib.hid ho
            have nB : ∀ x, o = some x → x.block ≠ W1.heap.size := fun x e => by have h1 := (mk.own_ge x.block (by rw [e]; rfl)).1; have h2 := Zs4.out.k.lt; omega
            have M5 := Lib.hid (mk.mono (B' := w.heap.size + 1) Q4.out.zr.lt)
            have Zs5 := Lib.hid (Zs4.out.call hg)
            have Q5 := Lib.hid (Q4.out.call hlt hd hg)
            clear hd hg mk
            refine ⟨_, rfl, ?_⟩
            refine hK.out _ _ trivial (fun hHeld => ?_)
            simp only [Act.put, List.setIfInBounds_toArray, List.set_cons_zero, List.set_cons_succ]
            clear hK K
            refine wpAnyH_ready (rs := [0]) (by kernel_rfl) (by simp) ?_
            refine AllReadyH.cons rfl (fun K hK => ?_) (AllReadyH.nil)
            · skip
              have Q6 := Lib.hid (Q5.out.alloc (.cells #[.int .i64 0, .int .i64 0, .int .i64 1, .int .i64 15] 3))
              have Zs6 := Lib.hid (Zs5.out.alloc (.cells #[.int .i64 0, .int .i64 0, .int .i64 1, .int .i64 15] 3))
              have M6 := Lib.hid (M5.out.alloc (.cells #[.int .i64 0, .int .i64 0, .int .i64 1, .int .i64 15] 3))
              have L6 := Lib.hid (OB.new (g := g) (W := W5) 3 #[.int .i64 0, .int .i64 0, .int .i64 1, .int .i64 15] Q5.out.d.lt)
              refine step_run2 6 rfl (.slice (some ⟨W5.heap.size, 0, none⟩) 4 4) (W5.alloc (.cells #[.int .i64 0, .int .i64 0, .int .i64 1, .int .i64 15] 3)) (by kernel_rfl) (by kernel_rfl) ?_
              refine hK.out _ _ trivial (fun hHeld => ?_)
              simp only [Act.put, List.setIfInBounds_toArray, List.set_cons_zero, List.set_cons_succ]
              clear hK K
              generalize hW6 : W5.alloc (.cells #[.int .i64 0, .int .i64 0, .int .i64 1, .int .i64 15] 3) = W6 at Q6 L6 Zs6 M6 ⊢
              clear hW6
              refine take_lit (i := 3) (v := .pointer (some ⟨W5.heap.size, i, none⟩)) 9 rfl rfl (by kernel_rfl) (by kernel_rfl) (by kernel_rfl) (fun _ _ _ h => h) (Or.inl ⟨by rfl, fun w hSw => by clear hSw; go_simp; try (intro h9; exact absurd (h9 (by omega)) (by omega))⟩) (by trivial) ?_
              simp only [Act.put, List.setIfInBounds_toArray, List.set_cons_zero, List.set_cons_succ]
              refine wpAnyH_ready (rs := [4]) (by kernel_rfl) (by simp) ?_
              refine AllReadyH.cons rfl (fun K hK => ?_) (AllReadyH.nil)
              · have hc := (cells_of L6.out.k i).trans (ctxRow_at i hi)
                have hv := ctxRow_bd i
                generalize ctxRow.getD i 0 = v at hc hv
                refine step_run2 10 rfl (.int .i64 v) W6 (by kernel_rfl) (by go_simp) ?_
                refine hK.out _ _ trivial (fun hHeld => ?_)
                simp only [Act.put, List.setIfInBounds_toArray, List.set_cons_zero, List.set_cons_succ]
                clear hK K hc
                refine take_lit (i := 10) (v := sm0V v (1 + q) o m c) 16 rfl rfl (by kernel_rfl) (by kernel_rfl) (by kernel_rfl) (fun _ _ _ h => h) (Or.inl ⟨by rfl, fun w _ => by kernel_rfl⟩) (by trivial) ?_
                simp only [Act.put, List.setIfInBounds_toArray, List.set_cons_zero, List.set_cons_succ]
                refine wpAnyH_ready (rs := [12]) (by kernel_rfl) (by simp) ?_
                refine AllReadyH.cons rfl (ready_store (n := 26) (by kernel_rfl) rfl (.tmp 3) (.tmp 16) rfl rfl rfl Zs6.out.k rfl rfl info_sm (by simp [Value.oneCell']) ?_) AllReadyH.nil
                intro W8 K9 G9
                have Zk := Lib.hid (show Blk 28 W8 _ _ from K9)
                have Q8 := Lib.hid (Q6.out.row G9 Zs6.out.n hB)
                have M8 := Lib.hid (M6.out.keepRow G9 (own_ne nB))
                refine ⟨trivial, fun hHeld => ?_⟩
                clear K9 G9
                refine wpAnyH_done (by kernel_rfl) ?_ _
                refine NoPanic.normal ?_
                go_wp2_with fail
                go_meet
                exact ⟨_, _, ⟨v, 1 + q, 0, 0, 0, 0, 0, ⟨0, 0, 0, 0, 0, 0, 0, 0, 0, 0, 0, 0, 0, 0, 0⟩, 0, 0, 0, o, m, c, zs⟩, rfl, rfl, ⟨Q8.out, Zk.out, ⟨M8.out, ho.out, hm, nB⟩, hB⟩, ⟨hv, by dsimp only; omega, rfl, rfl, rfl, rfl, rfl, rfl, rfl, rfl, rfl⟩⟩
end Go.Proofs.YtkhcfmnebflgkaaDoor
