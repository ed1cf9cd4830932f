/-
  The document's own functions of layer 5 (radiolinkref05): in, Valid, set.
-/
import Derived.Test.YtphekpkkeiaccaaHd
import Derived.Test.YtphekpkkeiaccaaPush
import Derived.Test.YtphekpkkeiaccaaProg
namespace Go.Proofs.Ytphekpkkeiaccaa
open Go Go.RowKit

def inB (n m : Int) : Bool := decide (0 ≤ n ∧ n ≤ m)
theorem in05_any (n m : Int) (w : World) (b : -9223372036854775808 ≤ n ∧ n ≤ 9223372036854775807) :
    Calls Try.prog 42 #[.int .i64 n, .int .i64 m] w fun e w' => e = .returned (.bool (inB n m)) ∧ w = w' := by
  by_cases h0 : 0 ≤ n
  · go_enter Try.func42, Try.ntmps42
    go_wp2
    go_ret
    exact ⟨ret_bool (by unfold inB; simp [h0]), rfl⟩
  · go_enter Try.func42, Try.ntmps42
    go_wp2
    go_ret
    exact ⟨ret_bool (by unfold inB; simp; omega), rfl⟩

/-- the document's own test, in its order -/
def rValidB (h : Hd) : Bool :=
  (h.kind == 1 || h.kind == 2) && inB h.tos 255 && inB h.ttl 255 && inB h.id 65535 && inB h.fromPort 65535 && inB h.toPort 65535 && inB h.check 65535 && inB h.fixed 1 && inB h.frm 4294967295 && inB h.to 4294967295 &&
    (if h.kind == 1 then h.marker == 0 && h.type == 0 && h.seq == 0 && h.time == 0 && h.source == 0
      else inB h.marker 1 && inB h.type 127 && inB h.seq 65535 && inB h.time 4294967295 && inB h.source 4294967295)
theorem rValidB_eq (h : Hd) : rValidB h = validB h := by
  apply Bool.eq_iff_iff.2
  unfold rValidB validB inB
  by_cases k1 : h.kind = 1
  · simp [k1]; omega
  · by_cases k2 : h.kind = 2
    · simp [k2]; omega
    · simp [k1, k2]

set_option maxRecDepth 100000 in
set_option maxHeartbeats 3200000 in
theorem rValid_any (h : Hd) (w : World) (b : h.Fits) :
    Calls Try.prog 31 #[(.agg #[.int .i64 h.kind, .int .i64 h.tos, .int .i64 h.id, .int .i64 h.fixed, .int .i64 h.ttl, .int .i64 h.frm, .int .i64 h.to, .int .i64 h.fromPort, .int .i64 h.toPort, .int .i64 h.check, .int .i64 h.marker, .int .i64 h.type, .int .i64 h.seq, .int .i64 h.time, .int .i64 h.source])] w fun e w' => e = .returned (.bool (validB h)) ∧ Below w.heap.size w w' := by
  rw [← rValidB_eq]
  obtain ⟨x_kind, x_tos, x_id, x_fixed, x_ttl, x_frm, x_to, x_fromPort, x_toPort, x_check, x_marker, x_type, x_seq, x_time, x_source⟩ := h
  obtain ⟨f_kind, f_tos, f_id, f_fixed, f_ttl, f_frm, f_to, f_fromPort, f_toPort, f_check, f_marker, f_type, f_seq, f_time, f_source⟩ := b
  unfold rValidB
  simp only at *
  have hB := Lib.hid ((Below.refl w.heap.size w).alloc (Nat.le_refl _) (.cells #[.int .i64 x_kind, .int .i64 x_tos, .int .i64 x_id, .int .i64 x_fixed, .int .i64 x_ttl, .int .i64 x_frm, .int .i64 x_to, .int .i64 x_fromPort, .int .i64 x_toPort, .int .i64 x_check, .int .i64 x_marker, .int .i64 x_type, .int .i64 x_seq, .int .i64 x_time, .int .i64 x_source] 23))
  have I_tos := Lib.hid (fun W => in05_any x_tos 255 W f_tos)
  generalize inB x_tos 255 = c_tos at I_tos ⊢
  have I_ttl := Lib.hid (fun W => in05_any x_ttl 255 W f_ttl)
  generalize inB x_ttl 255 = c_ttl at I_ttl ⊢
  have I_id := Lib.hid (fun W => in05_any x_id 65535 W f_id)
  generalize inB x_id 65535 = c_id at I_id ⊢
  have I_fromPort := Lib.hid (fun W => in05_any x_fromPort 65535 W f_fromPort)
  generalize inB x_fromPort 65535 = c_fromPort at I_fromPort ⊢
  have I_toPort := Lib.hid (fun W => in05_any x_toPort 65535 W f_toPort)
  generalize inB x_toPort 65535 = c_toPort at I_toPort ⊢
  have I_check := Lib.hid (fun W => in05_any x_check 65535 W f_check)
  generalize inB x_check 65535 = c_check at I_check ⊢
  have I_fixed := Lib.hid (fun W => in05_any x_fixed 1 W f_fixed)
  generalize inB x_fixed 1 = c_fixed at I_fixed ⊢
  have I_frm := Lib.hid (fun W => in05_any x_frm 4294967295 W f_frm)
  generalize inB x_frm 4294967295 = c_frm at I_frm ⊢
  have I_to := Lib.hid (fun W => in05_any x_to 4294967295 W f_to)
  generalize inB x_to 4294967295 = c_to at I_to ⊢
  clear f_tos f_ttl f_id f_fromPort f_toPort f_check f_fixed f_frm f_to f_kind
  by_cases k1 : x_kind = 1
  · subst k1
    clear f_marker f_type f_seq f_time f_source
    go_enter Try.func31, Try.ntmps31
    go_wp2_with (first
      | (go_at_call 42; ((with_reducible refine (I_tos.out _).mono ?_); rintro e w' ⟨rfl, rfl⟩))
      | (go_at_call 42; ((with_reducible refine (I_ttl.out _).mono ?_); rintro e w' ⟨rfl, rfl⟩))
      | (go_at_call 42; ((with_reducible refine (I_id.out _).mono ?_); rintro e w' ⟨rfl, rfl⟩))
      | (go_at_call 42; ((with_reducible refine (I_fromPort.out _).mono ?_); rintro e w' ⟨rfl, rfl⟩))
      | (go_at_call 42; ((with_reducible refine (I_toPort.out _).mono ?_); rintro e w' ⟨rfl, rfl⟩))
      | (go_at_call 42; ((with_reducible refine (I_check.out _).mono ?_); rintro e w' ⟨rfl, rfl⟩))
      | (go_at_call 42; ((with_reducible refine (I_fixed.out _).mono ?_); rintro e w' ⟨rfl, rfl⟩))
      | (go_at_call 42; ((with_reducible refine (I_frm.out _).mono ?_); rintro e w' ⟨rfl, rfl⟩))
      | (go_at_call 42; ((with_reducible refine (I_to.out _).mono ?_); rintro e w' ⟨rfl, rfl⟩))
      | fail)
    all_goals go_ret
    all_goals refine ⟨ret_bool ?_, (Below.refl _ _).alloc (Nat.le_refl _) _⟩
    all_goals clear I_tos I_id I_fixed I_ttl I_frm I_to I_fromPort I_toPort I_check hB
    all_goals first | (simp; done) | simp_all
  · by_cases k2 : x_kind = 2
    · subst k2
      have I_marker := Lib.hid (fun W => in05_any x_marker 1 W f_marker)
      generalize inB x_marker 1 = c_marker at I_marker ⊢
      have I_type := Lib.hid (fun W => in05_any x_type 127 W f_type)
      generalize inB x_type 127 = c_type at I_type ⊢
      have I_seq := Lib.hid (fun W => in05_any x_seq 65535 W f_seq)
      generalize inB x_seq 65535 = c_seq at I_seq ⊢
      have I_time := Lib.hid (fun W => in05_any x_time 4294967295 W f_time)
      generalize inB x_time 4294967295 = c_time at I_time ⊢
      have I_source := Lib.hid (fun W => in05_any x_source 4294967295 W f_source)
      generalize inB x_source 4294967295 = c_source at I_source ⊢
      clear f_marker f_type f_seq f_time f_source
      go_enter Try.func31, Try.ntmps31
      go_wp2_with (first
        | (go_at_call 42; ((with_reducible refine (I_tos.out _).mono ?_); rintro e w' ⟨rfl, rfl⟩))
        | (go_at_call 42; ((with_reducible refine (I_ttl.out _).mono ?_); rintro e w' ⟨rfl, rfl⟩))
        | (go_at_call 42; ((with_reducible refine (I_id.out _).mono ?_); rintro e w' ⟨rfl, rfl⟩))
        | (go_at_call 42; ((with_reducible refine (I_fromPort.out _).mono ?_); rintro e w' ⟨rfl, rfl⟩))
        | (go_at_call 42; ((with_reducible refine (I_toPort.out _).mono ?_); rintro e w' ⟨rfl, rfl⟩))
        | (go_at_call 42; ((with_reducible refine (I_check.out _).mono ?_); rintro e w' ⟨rfl, rfl⟩))
        | (go_at_call 42; ((with_reducible refine (I_fixed.out _).mono ?_); rintro e w' ⟨rfl, rfl⟩))
        | (go_at_call 42; ((with_reducible refine (I_frm.out _).mono ?_); rintro e w' ⟨rfl, rfl⟩))
        | (go_at_call 42; ((with_reducible refine (I_to.out _).mono ?_); rintro e w' ⟨rfl, rfl⟩))
        | (go_at_call 42; ((with_reducible refine (I_marker.out _).mono ?_); rintro e w' ⟨rfl, rfl⟩))
        | (go_at_call 42; ((with_reducible refine (I_type.out _).mono ?_); rintro e w' ⟨rfl, rfl⟩))
        | (go_at_call 42; ((with_reducible refine (I_seq.out _).mono ?_); rintro e w' ⟨rfl, rfl⟩))
        | (go_at_call 42; ((with_reducible refine (I_time.out _).mono ?_); rintro e w' ⟨rfl, rfl⟩))
        | (go_at_call 42; ((with_reducible refine (I_source.out _).mono ?_); rintro e w' ⟨rfl, rfl⟩))
        | fail)
      all_goals go_ret
      all_goals refine ⟨ret_bool ?_, (Below.refl _ _).alloc (Nat.le_refl _) _⟩
      all_goals clear I_tos I_id I_fixed I_ttl I_frm I_to I_fromPort I_toPort I_check I_marker I_type I_seq I_time I_source hB
      all_goals first | (simp; done) | simp_all
    · have e1 : (x_kind == 1) = false := by simpa using k1
      have e2 : (x_kind == 2) = false := by simpa using k2
      rw [e1, e2]
      simp only [Bool.or_false, Bool.false_and]
      go_enter Try.func31, Try.ntmps31
      go_wp2_with fail
      go_ret
      exact ⟨rfl, hB.out⟩
end Go.Proofs.Ytphekpkkeiaccaa
