/-
  The document's own functions of layer 8: in, fields, Valid.
-/
import Derived.Test.YtkhcfmnebflgkaaDoorJLow
namespace Go.Proofs.YtkhcfmnebflgkaaDoor
open Go Go.RowKit

theorem in08_any (n m : Int) (w : World) :
    Calls Tryd.prog 41 #[.int .i64 n, .int .i64 m] w fun e w' => e = .returned (.bool (inB n m)) ∧ w = w' := by
  by_cases h0 : 0 ≤ n
  · go_enter Tryd.func41, Tryd.ntmps41
    go_wp2
    go_ret
    exact ⟨ret_bool (by unfold inB; simp [h0]), rfl⟩
  · go_enter Tryd.func41, Tryd.ntmps41
    go_wp2
    go_ret
    exact ⟨ret_bool (by unfold inB; simp; omega), rfl⟩

theorem eql_dy (s f x y : Int) (W : World) : Sem.run Tryd.prog (binOp .eql 25 (.agg #[.int .i64 s, .int .i64 f]) (.agg #[.int .i64 x, .int .i64 y])) W = .ok (.bool (decide (s = x) && decide (f = y))) W := by
  have u3 := Tryd.underlying3
  have a3 := Tryd.isAgg3
  have z3 := Tryd.sizeOf3
  have hS : Tryd.prog.underlying 25 = some (.struct (Tryd.prog.fieldsOf 25)) := by kernel_rfl
  have hp : Tryd.prog.stoodInHeld 25 = false := by kernel_rfl
  rw [run_eql_struct, show (10000 : Nat) = 9999 + 1 from rfl, run_equalIn_agg W 9999 25 _ _ hS hp]
  simp only [Program.fieldsOf, Tryd.underlying25]
  go_simp
  clear hS hp u3 a3 z3
  by_cases h1 : s = x <;> by_cases h2 : f = y <;> simp [h1, h2]
theorem neql_of {P : Program} {t : TypeId} {xs ys : Array Value} {W : World} {b : Bool} (h : Sem.run P (binOp .eql t (.agg xs) (.agg ys)) W = .ok (.bool b) W) : Sem.run P (binOp .neq t (.agg xs) (.agg ys)) W = .ok (.bool !b) W := by
  rw [run_eql_struct] at h
  rw [run_neq_struct]
  cases hX : Sem.run P (Op.equalIn 10000 t (.agg xs) (.agg ys)) W with
  | ok v w' =>
    rw [hX] at h
    simp only [Result.andThen, Result.ok.injEq, Value.bool.injEq] at h
    obtain ⟨rfl, rfl⟩ := h
    rfl
  | _ => rw [hX] at h; cases h

set_option maxRecDepth 100000 in
set_option maxHeartbeats 6400000 in
theorem fields_any (s : Sm) (w : World) :
    Calls Tryd.prog 42 #[(.agg #[.int .i64 s.ctx, .int .i64 s.fmt, .int .i64 s.num, .int .i64 s.time, .int .i64 s.mark, .int .i64 s.id, .int .i64 s.udp, .int .i64 s.h.kind, .int .i64 s.h.tos, .int .i64 s.h.id, .int .i64 s.h.fixed, .int .i64 s.h.ttl, .int .i64 s.h.frm, .int .i64 s.h.to, .int .i64 s.h.fromPort, .int .i64 s.h.toPort, .int .i64 s.h.check, .int .i64 s.h.marker, .int .i64 s.h.type, .int .i64 s.h.seq, .int .i64 s.h.time, .int .i64 s.h.source, .int .i64 s.ds, .int .i64 s.df, .int .i64 s.chk, .slice s.pa s.pn s.pc])] w fun e w' => e = .returned (.bool (smSmallB s)) ∧ Below w.heap.size w w' := by
  have BW := Lib.hid ((Below.refl w.heap.size w).alloc (Nat.le_refl _) (.cells #[.int .i64 s.ctx, .int .i64 s.fmt, .int .i64 s.num, .int .i64 s.time, .int .i64 s.mark, .int .i64 s.id, .int .i64 s.udp, .int .i64 s.h.kind, .int .i64 s.h.tos, .int .i64 s.h.id, .int .i64 s.h.fixed, .int .i64 s.h.ttl, .int .i64 s.h.frm, .int .i64 s.h.to, .int .i64 s.h.fromPort, .int .i64 s.h.toPort, .int .i64 s.h.check, .int .i64 s.h.marker, .int .i64 s.h.type, .int .i64 s.h.seq, .int .i64 s.h.time, .int .i64 s.h.source, .int .i64 s.ds, .int .i64 s.df, .int .i64 s.chk, .slice s.pa s.pn s.pc] 28))
  have hc := cells_of (heap_alloc_new w (.cells #[.int .i64 s.ctx, .int .i64 s.fmt, .int .i64 s.num, .int .i64 s.time, .int .i64 s.mark, .int .i64 s.id, .int .i64 s.udp, .int .i64 s.h.kind, .int .i64 s.h.tos, .int .i64 s.h.id, .int .i64 s.h.fixed, .int .i64 s.h.ttl, .int .i64 s.h.frm, .int .i64 s.h.to, .int .i64 s.h.fromPort, .int .i64 s.h.toPort, .int .i64 s.h.check, .int .i64 s.h.marker, .int .i64 s.h.type, .int .i64 s.h.seq, .int .i64 s.h.time, .int .i64 s.h.source, .int .i64 s.ds, .int .i64 s.df, .int .i64 s.chk, .slice s.pa s.pn s.pc] 28))
  have EH := fun W => neql_of (eql_hd s.h (kindH s.h.kind) W)
  have ED := fun W => neql_of (eql_dy s.ds s.df 0 0 W)
  simp only [kindH] at EH
  have HS : Hid (smSmallB s = (((s.h.kind == 1 || s.h.kind == 2) && eqB s.h ⟨s.h.kind, 0, 0, 0, 0, 0, 0, 0, 0, 0, 0, 0, 0, 0, 0⟩ && smDyn0 s && inB s.udp 65535) && (inB s.num (smNumM s.fmt s.h.kind) && inB s.time (smTimeM s.fmt s.h.kind) && inB s.mark (smMarkM s.fmt s.h.kind) && inB s.id (smIdM s.fmt s.h.kind) && inB s.chk (smChkM s.fmt)))) := rfl
  have HD : smDyn0 s = (decide (s.ds = 0) && decide (s.df = 0)) := by unfold smDyn0; simp [Bool.beq_eq_decide_eq]
  rw [← HD] at ED
  generalize eqB s.h ⟨s.h.kind, 0, 0, 0, 0, 0, 0, 0, 0, 0, 0, 0, 0, 0, 0⟩ = eh at EH HS
  generalize smDyn0 s = ed at ED HS
  generalize smSmallB s = R at HS ⊢
  clear HD
  by_cases k1 : s.h.kind = 1
  · have KV := Lib.hid k1
    have kk : (s.h.kind == 1 || s.h.kind == 2) = true := by rw [k1]; rfl
    have K1 : (s.h.kind == 1) = true := by rw [k1]; rfl
    have K2 : (s.h.kind != 1) = false := by rw [k1]; rfl
    have K3 : (s.h.kind == 2) = false := by rw [k1]; rfl
    have K4 : (s.h.kind != 2) = true := by rw [k1]; rfl
    clear k1
    have U : Hid (inB s.udp 65535 = (decide (0 ≤ s.udp) && decide (s.udp ≤ 65535))) := by show _ = _; unfold inB; simp
    cases eh
    · obtain rfl : R = false := by rw [HS.out]; simp
      go_enter Tryd.func42, Tryd.ntmps42
      go_wp2_with fail
      go_ret
      exact ⟨ret_bool (rfl), BW.out⟩
    · cases ed
      · obtain rfl : R = false := by rw [HS.out]; simp
        go_enter Tryd.func42, Tryd.ntmps42
        go_wp2_with fail
        go_ret
        exact ⟨ret_bool (rfl), BW.out⟩
      · by_cases u0 : s.udp < 0
        · obtain rfl : R = false := by rw [HS.out, U.out, decide_eq_false (show ¬ 0 ≤ s.udp by omega)]; simp
          go_enter Tryd.func42, Tryd.ntmps42
          go_wp2_with fail
          go_ret
          exact ⟨ret_bool (rfl), BW.out⟩
        · by_cases u1 : 65535 < s.udp
          · obtain rfl : R = false := by rw [HS.out, U.out, decide_eq_false (show ¬ s.udp ≤ 65535 by omega)]; simp
            go_enter Tryd.func42, Tryd.ntmps42
            go_wp2_with fail
            go_ret
            exact ⟨ret_bool (rfl), BW.out⟩
          · rw [U.out, decide_eq_true (show 0 ≤ s.udp by omega), decide_eq_true (show s.udp ≤ 65535 by omega), kk] at HS
            clear U
            by_cases f2 : s.fmt = 2
            · have HT : Hid (R = (inB s.num 31 && inB s.time 0 && inB s.mark 0 && inB s.id 0 && inB s.chk 127)) := by
                have h := HS.out
                have kv := KV.out
                simp only [smNumM, smTimeM, smMarkM, smIdM, smChkM, kv, f2] at h
                exact h.trans (by simp)
              clear HS
              have I_num := Lib.hid (fun W => in08_any s.num 31 W)
              generalize inB s.num 31 = c_num at I_num HT
              have I_time := Lib.hid (fun W => in08_any s.time 0 W)
              generalize inB s.time 0 = c_time at I_time HT
              have I_mark := Lib.hid (fun W => in08_any s.mark 0 W)
              generalize inB s.mark 0 = c_mark at I_mark HT
              have I_id := Lib.hid (fun W => in08_any s.id 0 W)
              generalize inB s.id 0 = c_id at I_id HT
              have I_chk := Lib.hid (fun W => in08_any s.chk 127 W)
              generalize inB s.chk 127 = c_chk at I_chk HT
              have g2 : (s.fmt == 2) = true := by rw [f2]; rfl
              have g3 : (s.fmt == 3) = false := by rw [f2]; rfl
              clear f2
              go_enter Tryd.func42, Tryd.ntmps42
              go_wp2_with (first | (go_at_call 41; ((with_reducible refine (I_num.out _).mono ?_); rintro e w' ⟨rfl, rfl⟩)) | (go_at_call 41; ((with_reducible refine (I_time.out _).mono ?_); rintro e w' ⟨rfl, rfl⟩)) | (go_at_call 41; ((with_reducible refine (I_mark.out _).mono ?_); rintro e w' ⟨rfl, rfl⟩)) | (go_at_call 41; ((with_reducible refine (I_id.out _).mono ?_); rintro e w' ⟨rfl, rfl⟩)) | (go_at_call 41; ((with_reducible refine (I_chk.out _).mono ?_); rintro e w' ⟨rfl, rfl⟩)) | fail)
              all_goals go_ret
              all_goals refine ⟨ret_bool ?_, BW.out⟩
              all_goals rw [HT.out]
              all_goals clear BW HT I_num I_time I_mark I_id I_chk
              all_goals first | (simp; done) | simp_all
            · by_cases f3 : s.fmt = 3
              · have HT : Hid (R = (inB s.num 65535 && inB s.time 0 && inB s.mark 0 && inB s.id 0 && inB s.chk 255)) := by
                  have h := HS.out
                  have kv := KV.out
                  simp only [smNumM, smTimeM, smMarkM, smIdM, smChkM, kv, f3] at h
                  exact h.trans (by simp)
                clear HS
                have I_num := Lib.hid (fun W => in08_any s.num 65535 W)
                generalize inB s.num 65535 = c_num at I_num HT
                have I_time := Lib.hid (fun W => in08_any s.time 0 W)
                generalize inB s.time 0 = c_time at I_time HT
                have I_mark := Lib.hid (fun W => in08_any s.mark 0 W)
                generalize inB s.mark 0 = c_mark at I_mark HT
                have I_id := Lib.hid (fun W => in08_any s.id 0 W)
                generalize inB s.id 0 = c_id at I_id HT
                have I_chk := Lib.hid (fun W => in08_any s.chk 255 W)
                generalize inB s.chk 255 = c_chk at I_chk HT
                have g2 : (s.fmt == 2) = false := by rw [f3]; rfl
                have g3 : (s.fmt == 3) = true := by rw [f3]; rfl
                clear f3 f2
                go_enter Tryd.func42, Tryd.ntmps42
                go_wp2_with (first | (go_at_call 41; ((with_reducible refine (I_num.out _).mono ?_); rintro e w' ⟨rfl, rfl⟩)) | (go_at_call 41; ((with_reducible refine (I_time.out _).mono ?_); rintro e w' ⟨rfl, rfl⟩)) | (go_at_call 41; ((with_reducible refine (I_mark.out _).mono ?_); rintro e w' ⟨rfl, rfl⟩)) | (go_at_call 41; ((with_reducible refine (I_id.out _).mono ?_); rintro e w' ⟨rfl, rfl⟩)) | (go_at_call 41; ((with_reducible refine (I_chk.out _).mono ?_); rintro e w' ⟨rfl, rfl⟩)) | fail)
                all_goals go_ret
                all_goals refine ⟨ret_bool ?_, BW.out⟩
                all_goals rw [HT.out]
                all_goals clear BW HT I_num I_time I_mark I_id I_chk
                all_goals first | (simp; done) | simp_all
              · have HT : Hid (R = (inB s.num 15 && inB s.time 0 && inB s.mark 0 && inB s.id 0 && inB s.chk 7)) := by
                  have h := HS.out
                  have kv := KV.out
                  simp only [smNumM, smTimeM, smMarkM, smIdM, smChkM, kv, f2, f3] at h
                  exact h.trans (by simp)
                clear HS
                have I_num := Lib.hid (fun W => in08_any s.num 15 W)
                generalize inB s.num 15 = c_num at I_num HT
                have I_time := Lib.hid (fun W => in08_any s.time 0 W)
                generalize inB s.time 0 = c_time at I_time HT
                have I_mark := Lib.hid (fun W => in08_any s.mark 0 W)
                generalize inB s.mark 0 = c_mark at I_mark HT
                have I_id := Lib.hid (fun W => in08_any s.id 0 W)
                generalize inB s.id 0 = c_id at I_id HT
                have I_chk := Lib.hid (fun W => in08_any s.chk 7 W)
                generalize inB s.chk 7 = c_chk at I_chk HT
                have g2 : (s.fmt == 2) = false := by simpa using f2
                have g3 : (s.fmt == 3) = false := by simpa using f3
                clear f2 f3
                go_enter Tryd.func42, Tryd.ntmps42
                go_wp2_with (first | (go_at_call 41; ((with_reducible refine (I_num.out _).mono ?_); rintro e w' ⟨rfl, rfl⟩)) | (go_at_call 41; ((with_reducible refine (I_time.out _).mono ?_); rintro e w' ⟨rfl, rfl⟩)) | (go_at_call 41; ((with_reducible refine (I_mark.out _).mono ?_); rintro e w' ⟨rfl, rfl⟩)) | (go_at_call 41; ((with_reducible refine (I_id.out _).mono ?_); rintro e w' ⟨rfl, rfl⟩)) | (go_at_call 41; ((with_reducible refine (I_chk.out _).mono ?_); rintro e w' ⟨rfl, rfl⟩)) | fail)
                all_goals go_ret
                all_goals refine ⟨ret_bool ?_, BW.out⟩
                all_goals rw [HT.out]
                all_goals clear BW HT I_num I_time I_mark I_id I_chk
                all_goals first | (simp; done) | simp_all
  · by_cases k2 : s.h.kind = 2
    · have KV := Lib.hid k2
      have kk : (s.h.kind == 1 || s.h.kind == 2) = true := by rw [k2]; rfl
      have K1 : (s.h.kind == 1) = false := by rw [k2]; rfl
      have K2 : (s.h.kind != 1) = true := by rw [k2]; rfl
      have K3 : (s.h.kind == 2) = true := by rw [k2]; rfl
      have K4 : (s.h.kind != 2) = false := by rw [k2]; rfl
      clear k1 k2
      have U : Hid (inB s.udp 65535 = (decide (0 ≤ s.udp) && decide (s.udp ≤ 65535))) := by show _ = _; unfold inB; simp
      cases eh
      · obtain rfl : R = false := by rw [HS.out]; simp
        go_enter Tryd.func42, Tryd.ntmps42
        go_wp2_with fail
        go_ret
        exact ⟨ret_bool (rfl), BW.out⟩
      · cases ed
        · obtain rfl : R = false := by rw [HS.out]; simp
          go_enter Tryd.func42, Tryd.ntmps42
          go_wp2_with fail
          go_ret
          exact ⟨ret_bool (rfl), BW.out⟩
        · by_cases u0 : s.udp < 0
          · obtain rfl : R = false := by rw [HS.out, U.out, decide_eq_false (show ¬ 0 ≤ s.udp by omega)]; simp
            go_enter Tryd.func42, Tryd.ntmps42
            go_wp2_with fail
            go_ret
            exact ⟨ret_bool (rfl), BW.out⟩
          · by_cases u1 : 65535 < s.udp
            · obtain rfl : R = false := by rw [HS.out, U.out, decide_eq_false (show ¬ s.udp ≤ 65535 by omega)]; simp
              go_enter Tryd.func42, Tryd.ntmps42
              go_wp2_with fail
              go_ret
              exact ⟨ret_bool (rfl), BW.out⟩
            · rw [U.out, decide_eq_true (show 0 ≤ s.udp by omega), decide_eq_true (show s.udp ≤ 65535 by omega), kk] at HS
              clear U
              by_cases f2 : s.fmt = 2
              · have HT : Hid (R = (inB s.num 31 && inB s.time 65535 && inB s.mark 1 && inB s.id 0 && inB s.chk 127)) := by
                  have h := HS.out
                  have kv := KV.out
                  simp only [smNumM, smTimeM, smMarkM, smIdM, smChkM, kv, f2] at h
                  exact h.trans (by simp)
                clear HS
                have I_num := Lib.hid (fun W => in08_any s.num 31 W)
                generalize inB s.num 31 = c_num at I_num HT
                have I_time := Lib.hid (fun W => in08_any s.time 65535 W)
                generalize inB s.time 65535 = c_time at I_time HT
                have I_mark := Lib.hid (fun W => in08_any s.mark 1 W)
                generalize inB s.mark 1 = c_mark at I_mark HT
                have I_id := Lib.hid (fun W => in08_any s.id 0 W)
                generalize inB s.id 0 = c_id at I_id HT
                have I_chk := Lib.hid (fun W => in08_any s.chk 127 W)
                generalize inB s.chk 127 = c_chk at I_chk HT
                have g2 : (s.fmt == 2) = true := by rw [f2]; rfl
                have g3 : (s.fmt == 3) = false := by rw [f2]; rfl
                clear f2
                go_enter Tryd.func42, Tryd.ntmps42
                go_wp2_with (first | (go_at_call 41; ((with_reducible refine (I_num.out _).mono ?_); rintro e w' ⟨rfl, rfl⟩)) | (go_at_call 41; ((with_reducible refine (I_time.out _).mono ?_); rintro e w' ⟨rfl, rfl⟩)) | (go_at_call 41; ((with_reducible refine (I_mark.out _).mono ?_); rintro e w' ⟨rfl, rfl⟩)) | (go_at_call 41; ((with_reducible refine (I_id.out _).mono ?_); rintro e w' ⟨rfl, rfl⟩)) | (go_at_call 41; ((with_reducible refine (I_chk.out _).mono ?_); rintro e w' ⟨rfl, rfl⟩)) | fail)
                all_goals go_ret
                all_goals refine ⟨ret_bool ?_, BW.out⟩
                all_goals rw [HT.out]
                all_goals clear BW HT I_num I_time I_mark I_id I_chk
                all_goals first | (simp; done) | simp_all
              · by_cases f3 : s.fmt = 3
                · have HT : Hid (R = (inB s.num 255 && inB s.time 4294967295 && inB s.mark 1 && inB s.id 65535 && inB s.chk 255)) := by
                    have h := HS.out
                    have kv := KV.out
                    simp only [smNumM, smTimeM, smMarkM, smIdM, smChkM, kv, f3] at h
                    exact h.trans (by simp)
                  clear HS
                  have I_num := Lib.hid (fun W => in08_any s.num 255 W)
                  generalize inB s.num 255 = c_num at I_num HT
                  have I_time := Lib.hid (fun W => in08_any s.time 4294967295 W)
                  generalize inB s.time 4294967295 = c_time at I_time HT
                  have I_mark := Lib.hid (fun W => in08_any s.mark 1 W)
                  generalize inB s.mark 1 = c_mark at I_mark HT
                  have I_id := Lib.hid (fun W => in08_any s.id 65535 W)
                  generalize inB s.id 65535 = c_id at I_id HT
                  have I_chk := Lib.hid (fun W => in08_any s.chk 255 W)
                  generalize inB s.chk 255 = c_chk at I_chk HT
                  have g2 : (s.fmt == 2) = false := by rw [f3]; rfl
                  have g3 : (s.fmt == 3) = true := by rw [f3]; rfl
                  clear f3 f2
                  go_enter Tryd.func42, Tryd.ntmps42
                  go_wp2_with (first | (go_at_call 41; ((with_reducible refine (I_num.out _).mono ?_); rintro e w' ⟨rfl, rfl⟩)) | (go_at_call 41; ((with_reducible refine (I_time.out _).mono ?_); rintro e w' ⟨rfl, rfl⟩)) | (go_at_call 41; ((with_reducible refine (I_mark.out _).mono ?_); rintro e w' ⟨rfl, rfl⟩)) | (go_at_call 41; ((with_reducible refine (I_id.out _).mono ?_); rintro e w' ⟨rfl, rfl⟩)) | (go_at_call 41; ((with_reducible refine (I_chk.out _).mono ?_); rintro e w' ⟨rfl, rfl⟩)) | fail)
                  all_goals go_ret
                  all_goals refine ⟨ret_bool ?_, BW.out⟩
                  all_goals rw [HT.out]
                  all_goals clear BW HT I_num I_time I_mark I_id I_chk
                  all_goals first | (simp; done) | simp_all
                · have HT : Hid (R = (inB s.num 15 && inB s.time 0 && inB s.mark 0 && inB s.id 0 && inB s.chk 7)) := by
                    have h := HS.out
                    have kv := KV.out
                    simp only [smNumM, smTimeM, smMarkM, smIdM, smChkM, kv, f2, f3] at h
                    exact h.trans (by simp)
                  clear HS
                  have I_num := Lib.hid (fun W => in08_any s.num 15 W)
                  generalize inB s.num 15 = c_num at I_num HT
                  have I_time := Lib.hid (fun W => in08_any s.time 0 W)
                  generalize inB s.time 0 = c_time at I_time HT
                  have I_mark := Lib.hid (fun W => in08_any s.mark 0 W)
                  generalize inB s.mark 0 = c_mark at I_mark HT
                  have I_id := Lib.hid (fun W => in08_any s.id 0 W)
                  generalize inB s.id 0 = c_id at I_id HT
                  have I_chk := Lib.hid (fun W => in08_any s.chk 7 W)
                  generalize inB s.chk 7 = c_chk at I_chk HT
                  have g2 : (s.fmt == 2) = false := by simpa using f2
                  have g3 : (s.fmt == 3) = false := by simpa using f3
                  clear f2 f3
                  go_enter Tryd.func42, Tryd.ntmps42
                  go_wp2_with (first | (go_at_call 41; ((with_reducible refine (I_num.out _).mono ?_); rintro e w' ⟨rfl, rfl⟩)) | (go_at_call 41; ((with_reducible refine (I_time.out _).mono ?_); rintro e w' ⟨rfl, rfl⟩)) | (go_at_call 41; ((with_reducible refine (I_mark.out _).mono ?_); rintro e w' ⟨rfl, rfl⟩)) | (go_at_call 41; ((with_reducible refine (I_id.out _).mono ?_); rintro e w' ⟨rfl, rfl⟩)) | (go_at_call 41; ((with_reducible refine (I_chk.out _).mono ?_); rintro e w' ⟨rfl, rfl⟩)) | fail)
                  all_goals go_ret
                  all_goals refine ⟨ret_bool ?_, BW.out⟩
                  all_goals rw [HT.out]
                  all_goals clear BW HT I_num I_time I_mark I_id I_chk
                  all_goals first | (simp; done) | simp_all
    · have K1 : (s.h.kind == 1) = false := by simpa using k1
      have K2 : (s.h.kind != 1) = true := by simpa using k1
      have K3 : (s.h.kind == 2) = false := by simpa using k2
      have K4 : (s.h.kind != 2) = true := by simpa using k2
      obtain rfl : R = false := by rw [HS.out, K1, K3]; rfl
      go_enter Tryd.func42, Tryd.ntmps42
      go_wp2_with fail
      go_ret
      exact ⟨ret_bool (rfl), BW.out⟩
end Go.Proofs.YtkhcfmnebflgkaaDoor
