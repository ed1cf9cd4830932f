/-
  The small functions of layer 6: the program's and the document's.
-/
import Derived.Test.YtphekpkkeiaccaaFlPlain
import Derived.Test.YtphekpkkeiaccaaHdBox
import Derived.Test.YtphekpkkeiaccaaSerRef
namespace Go.Proofs.Ytphekpkkeiaccaa
open Go Go.RowKit

set_option maxRecDepth 100000 in
set_option maxHeartbeats 1600000 in
theorem Static_any (h : Hd) (w : World) :
    Calls Try.prog 11 #[(.agg #[.int .i64 h.kind, .int .i64 h.tos, .int .i64 h.id, .int .i64 h.fixed, .int .i64 h.ttl, .int .i64 h.frm, .int .i64 h.to, .int .i64 h.fromPort, .int .i64 h.toPort, .int .i64 h.check, .int .i64 h.marker, .int .i64 h.type, .int .i64 h.seq, .int .i64 h.time, .int .i64 h.source])] w fun e w' => e = .returned (.agg #[.int .i64 (statH h).kind, .int .i64 (statH h).tos, .int .i64 (statH h).id, .int .i64 (statH h).fixed, .int .i64 (statH h).ttl, .int .i64 (statH h).frm, .int .i64 (statH h).to, .int .i64 (statH h).fromPort, .int .i64 (statH h).toPort, .int .i64 (statH h).check, .int .i64 (statH h).marker, .int .i64 (statH h).type, .int .i64 (statH h).seq, .int .i64 (statH h).time, .int .i64 (statH h).source]) ∧ Below w.heap.size w w' := by
  have K := heap_alloc_new (w.alloc (.cells #[.int .i64 h.kind, .int .i64 h.tos, .int .i64 h.id, .int .i64 h.fixed, .int .i64 h.ttl, .int .i64 h.frm, .int .i64 h.to, .int .i64 h.fromPort, .int .i64 h.toPort, .int .i64 h.check, .int .i64 h.marker, .int .i64 h.type, .int .i64 h.seq, .int .i64 h.time, .int .i64 h.source] 23)) (.cells #[.int .i64 (statH h).kind, .int .i64 (statH h).tos, .int .i64 (statH h).id, .int .i64 (statH h).fixed, .int .i64 (statH h).ttl, .int .i64 (statH h).frm, .int .i64 (statH h).to, .int .i64 (statH h).fromPort, .int .i64 (statH h).toPort, .int .i64 (statH h).check, .int .i64 (statH h).marker, .int .i64 (statH h).type, .int .i64 (statH h).seq, .int .i64 (statH h).time, .int .i64 (statH h).source] 23)
  rw [show (w.alloc (.cells #[.int .i64 h.kind, .int .i64 h.tos, .int .i64 h.id, .int .i64 h.fixed, .int .i64 h.ttl, .int .i64 h.frm, .int .i64 h.to, .int .i64 h.fromPort, .int .i64 h.toPort, .int .i64 h.check, .int .i64 h.marker, .int .i64 h.type, .int .i64 h.seq, .int .i64 h.time, .int .i64 h.source] 23)).heap.size = w.heap.size + 1 by simp] at K
  have hc := cells_of K
  have BW := Lib.hid (((Below.refl w.heap.size w).alloc (Nat.le_refl _) (.cells #[.int .i64 h.kind, .int .i64 h.tos, .int .i64 h.id, .int .i64 h.fixed, .int .i64 h.ttl, .int .i64 h.frm, .int .i64 h.to, .int .i64 h.fromPort, .int .i64 h.toPort, .int .i64 h.check, .int .i64 h.marker, .int .i64 h.type, .int .i64 h.seq, .int .i64 h.time, .int .i64 h.source] 23)).alloc (by simp) (.cells #[.int .i64 (statH h).kind, .int .i64 (statH h).tos, .int .i64 (statH h).id, .int .i64 (statH h).fixed, .int .i64 (statH h).ttl, .int .i64 (statH h).frm, .int .i64 (statH h).to, .int .i64 (statH h).fromPort, .int .i64 (statH h).toPort, .int .i64 (statH h).check, .int .i64 (statH h).marker, .int .i64 (statH h).type, .int .i64 (statH h).seq, .int .i64 (statH h).time, .int .i64 (statH h).source] 23))
  clear K
  simp only [statH] at hc BW ⊢
  go_enter Try.func11, Try.ntmps11
  go_wp2
  generalize (w.alloc (.cells #[.int .i64 h.kind, .int .i64 h.tos, .int .i64 h.id, .int .i64 h.fixed, .int .i64 h.ttl, .int .i64 h.frm, .int .i64 h.to, .int .i64 h.fromPort, .int .i64 h.toPort, .int .i64 h.check, .int .i64 h.marker, .int .i64 h.type, .int .i64 h.seq, .int .i64 h.time, .int .i64 h.source] 23)).alloc _ = W at hc BW ⊢
  refine bodyPost_ret (by simp [results, Try.results11, go_sem, hc]; rfl) rfl ?_
  exact ⟨rfl, BW.out⟩

theorem Number_any (h : Hd) (w : World) :
    Calls Try.prog 13 #[(.agg #[.int .i64 h.kind, .int .i64 h.tos, .int .i64 h.id, .int .i64 h.fixed, .int .i64 h.ttl, .int .i64 h.frm, .int .i64 h.to, .int .i64 h.fromPort, .int .i64 h.toPort, .int .i64 h.check, .int .i64 h.marker, .int .i64 h.type, .int .i64 h.seq, .int .i64 h.time, .int .i64 h.source])] w fun e w' => e = .returned (.int .i64 (numV h)) ∧ Below w.heap.size w w' := by
  have BW := Lib.hid ((Below.refl w.heap.size w).alloc (Nat.le_refl _) (.cells #[.int .i64 h.kind, .int .i64 h.tos, .int .i64 h.id, .int .i64 h.fixed, .int .i64 h.ttl, .int .i64 h.frm, .int .i64 h.to, .int .i64 h.fromPort, .int .i64 h.toPort, .int .i64 h.check, .int .i64 h.marker, .int .i64 h.type, .int .i64 h.seq, .int .i64 h.time, .int .i64 h.source] 23))
  unfold numV
  by_cases k : h.kind = 2
  · rw [if_pos k]
    have K : (h.kind == 2) = true := by rw [k]; rfl
    clear k
    go_enter Try.func13, Try.ntmps13
    go_wp2_with (go_at_call 33; refine (Low_any _ _ _).mono ?_; rintro e w' ⟨rfl, rfl⟩)
    go_ret
    exact ⟨rfl, BW.out⟩
  · rw [if_neg k]
    have K : (h.kind == 2) = false := by simpa using k
    clear k
    go_enter Try.func13, Try.ntmps13
    go_wp2_with (go_at_call 33; refine (Low_any _ _ _).mono ?_; rintro e w' ⟨rfl, rfl⟩)
    go_ret
    exact ⟨rfl, BW.out⟩

set_option maxRecDepth 100000 in
set_option maxHeartbeats 1600000 in
theorem rStatic_any (h : Hd) (w : World) :
    Calls Try.prog 12 #[(.agg #[.int .i64 h.kind, .int .i64 h.tos, .int .i64 h.id, .int .i64 h.fixed, .int .i64 h.ttl, .int .i64 h.frm, .int .i64 h.to, .int .i64 h.fromPort, .int .i64 h.toPort, .int .i64 h.check, .int .i64 h.marker, .int .i64 h.type, .int .i64 h.seq, .int .i64 h.time, .int .i64 h.source])] w fun e w' => e = .returned (.agg #[.int .i64 (statH h).kind, .int .i64 (statH h).tos, .int .i64 (statH h).id, .int .i64 (statH h).fixed, .int .i64 (statH h).ttl, .int .i64 (statH h).frm, .int .i64 (statH h).to, .int .i64 (statH h).fromPort, .int .i64 (statH h).toPort, .int .i64 (statH h).check, .int .i64 (statH h).marker, .int .i64 (statH h).type, .int .i64 (statH h).seq, .int .i64 (statH h).time, .int .i64 (statH h).source]) ∧ Below w.heap.size w w' := by
  have K := heap_alloc_new (w.alloc (.cells #[.int .i64 h.kind, .int .i64 h.tos, .int .i64 h.id, .int .i64 h.fixed, .int .i64 h.ttl, .int .i64 h.frm, .int .i64 h.to, .int .i64 h.fromPort, .int .i64 h.toPort, .int .i64 h.check, .int .i64 h.marker, .int .i64 h.type, .int .i64 h.seq, .int .i64 h.time, .int .i64 h.source] 23)) (.cells #[.int .i64 (statH h).kind, .int .i64 (statH h).tos, .int .i64 (statH h).id, .int .i64 (statH h).fixed, .int .i64 (statH h).ttl, .int .i64 (statH h).frm, .int .i64 (statH h).to, .int .i64 (statH h).fromPort, .int .i64 (statH h).toPort, .int .i64 (statH h).check, .int .i64 (statH h).marker, .int .i64 (statH h).type, .int .i64 (statH h).seq, .int .i64 (statH h).time, .int .i64 (statH h).source] 23)
  rw [show (w.alloc (.cells #[.int .i64 h.kind, .int .i64 h.tos, .int .i64 h.id, .int .i64 h.fixed, .int .i64 h.ttl, .int .i64 h.frm, .int .i64 h.to, .int .i64 h.fromPort, .int .i64 h.toPort, .int .i64 h.check, .int .i64 h.marker, .int .i64 h.type, .int .i64 h.seq, .int .i64 h.time, .int .i64 h.source] 23)).heap.size = w.heap.size + 1 by simp] at K
  have hc := cells_of K
  have BW := Lib.hid (((Below.refl w.heap.size w).alloc (Nat.le_refl _) (.cells #[.int .i64 h.kind, .int .i64 h.tos, .int .i64 h.id, .int .i64 h.fixed, .int .i64 h.ttl, .int .i64 h.frm, .int .i64 h.to, .int .i64 h.fromPort, .int .i64 h.toPort, .int .i64 h.check, .int .i64 h.marker, .int .i64 h.type, .int .i64 h.seq, .int .i64 h.time, .int .i64 h.source] 23)).alloc (by simp) (.cells #[.int .i64 (statH h).kind, .int .i64 (statH h).tos, .int .i64 (statH h).id, .int .i64 (statH h).fixed, .int .i64 (statH h).ttl, .int .i64 (statH h).frm, .int .i64 (statH h).to, .int .i64 (statH h).fromPort, .int .i64 (statH h).toPort, .int .i64 (statH h).check, .int .i64 (statH h).marker, .int .i64 (statH h).type, .int .i64 (statH h).seq, .int .i64 (statH h).time, .int .i64 (statH h).source] 23))
  clear K
  simp only [statH] at hc BW ⊢
  go_enter Try.func12, Try.ntmps12
  go_wp2
  generalize (w.alloc (.cells #[.int .i64 h.kind, .int .i64 h.tos, .int .i64 h.id, .int .i64 h.fixed, .int .i64 h.ttl, .int .i64 h.frm, .int .i64 h.to, .int .i64 h.fromPort, .int .i64 h.toPort, .int .i64 h.check, .int .i64 h.marker, .int .i64 h.type, .int .i64 h.seq, .int .i64 h.time, .int .i64 h.source] 23)).alloc _ = W at hc BW ⊢
  refine bodyPost_ret (by simp [results, Try.results12, go_sem, hc]; rfl) rfl ?_
  exact ⟨rfl, BW.out⟩

theorem rNumber_any (h : Hd) (w : World) :
    Calls Try.prog 14 #[(.agg #[.int .i64 h.kind, .int .i64 h.tos, .int .i64 h.id, .int .i64 h.fixed, .int .i64 h.ttl, .int .i64 h.frm, .int .i64 h.to, .int .i64 h.fromPort, .int .i64 h.toPort, .int .i64 h.check, .int .i64 h.marker, .int .i64 h.type, .int .i64 h.seq, .int .i64 h.time, .int .i64 h.source])] w fun e w' => e = .returned (.int .i64 (numV h)) ∧ Below w.heap.size w w' := by
  have BW := Lib.hid ((Below.refl w.heap.size w).alloc (Nat.le_refl _) (.cells #[.int .i64 h.kind, .int .i64 h.tos, .int .i64 h.id, .int .i64 h.fixed, .int .i64 h.ttl, .int .i64 h.frm, .int .i64 h.to, .int .i64 h.fromPort, .int .i64 h.toPort, .int .i64 h.check, .int .i64 h.marker, .int .i64 h.type, .int .i64 h.seq, .int .i64 h.time, .int .i64 h.source] 23))
  unfold numV
  by_cases k : h.kind = 2
  · rw [if_pos k]
    have K : (h.kind == 2) = true := by rw [k]; rfl
    clear k
    go_enter Try.func14, Try.ntmps14
    go_wp2_with (go_at_call 34; refine (refLow_any _ _ _).mono ?_; rintro e w' ⟨rfl, rfl⟩)
    go_ret
    exact ⟨rfl, BW.out⟩
  · rw [if_neg k]
    have K : (h.kind == 2) = false := by simpa using k
    clear k
    go_enter Try.func14, Try.ntmps14
    go_wp2_with (go_at_call 34; refine (refLow_any _ _ _).mono ?_; rintro e w' ⟨rfl, rfl⟩)
    go_ret
    exact ⟨rfl, BW.out⟩

theorem isStride_any (x : Int) (w : World) :
    Calls Try.prog 49 #[.int .i64 x] w fun e w' => e = .returned (.bool (decide (0 ≤ x ∧ x ≤ 65535))) ∧ w = w' := by
  by_cases h0 : 0 ≤ x
  · go_enter Try.func49, Try.ntmps49
    go_wp2
    go_ret
    exact ⟨ret_bool (by simp [h0]), rfl⟩
  · go_enter Try.func49, Try.ntmps49
    go_wp2
    go_ret
    exact ⟨ret_bool (by simp; omega), rfl⟩

/-- dynamic parameters that are valid -/
theorem isDynamic_any (s f : Int) (w : World) :
    Calls Try.prog 36 #[.agg #[.int .i64 s, .int .i64 f]] w fun e w' => e = .returned (.bool (dynB s f)) ∧ Below w.heap.size w w' := by
  have BW := Lib.hid ((Below.refl w.heap.size w).alloc (Nat.le_refl _) (.cells #[.int .i64 s, .int .i64 f] 26))
  unfold dynB
  by_cases hs : 0 ≤ s ∧ s ≤ 65535
  · have hb : decide (0 ≤ s ∧ s ≤ 65535) = true := decide_eq_true hs
    by_cases hf : f = 0
    · subst hf
      go_enter Try.func36, Try.ntmps36
      go_wp2_with (go_at_call 49; refine (isStride_any _ _).mono ?_; rintro e w' ⟨rfl, rfl⟩)
      go_ret
      exact ⟨ret_bool (by simp [hs]), BW.out⟩
    · have F0 : (f == 0) = false := by simpa using hf
      go_enter Try.func36, Try.ntmps36
      go_wp2_with (go_at_call 49; refine (isStride_any _ _).mono ?_; rintro e w' ⟨rfl, rfl⟩)
      go_ret
      exact ⟨ret_bool (by simp [hs, hf, Bool.beq_eq_decide_eq]), BW.out⟩
  · have hb : decide (0 ≤ s ∧ s ≤ 65535) = false := decide_eq_false hs
    go_enter Try.func36, Try.ntmps36
    go_wp2_with (go_at_call 49; refine (isStride_any _ _).mono ?_; rintro e w' ⟨rfl, rfl⟩)
    go_ret
    exact ⟨ret_bool (by simp; omega), BW.out⟩

theorem rDyn_any (s f : Int) (w : World) :
    Calls Try.prog 30 #[.agg #[.int .i64 s, .int .i64 f]] w fun e w' => e = .returned (.bool (dynB s f)) ∧ Below w.heap.size w w' := by
  have BW := Lib.hid ((Below.refl w.heap.size w).alloc (Nat.le_refl _) (.cells #[.int .i64 s, .int .i64 f] 26))
  unfold dynB
  by_cases h0 : 0 ≤ s
  · by_cases h1 : s ≤ 65535
    · by_cases hf : f = 0
      · subst hf
        go_enter Try.func30, Try.ntmps30
        go_wp2
        go_ret
        exact ⟨ret_bool (by simp [h0, h1]), BW.out⟩
      · have F0 : (f == 0) = false := by simpa using hf
        go_enter Try.func30, Try.ntmps30
        go_wp2
        go_ret
        exact ⟨ret_bool (by simp [h0, h1, hf, Bool.beq_eq_decide_eq]), BW.out⟩
    · go_enter Try.func30, Try.ntmps30
      go_wp2
      go_ret
      exact ⟨ret_bool (by simp; omega), BW.out⟩
  · go_enter Try.func30, Try.ntmps30
    go_wp2
    go_ret
    exact ⟨ret_bool (by simp; omega), BW.out⟩

theorem step_any (h : Hd) (n : Int) (w : World) :
    Calls Try.prog 37 #[(.agg #[.int .i64 h.kind, .int .i64 h.tos, .int .i64 h.id, .int .i64 h.fixed, .int .i64 h.ttl, .int .i64 h.frm, .int .i64 h.to, .int .i64 h.fromPort, .int .i64 h.toPort, .int .i64 h.check, .int .i64 h.marker, .int .i64 h.type, .int .i64 h.seq, .int .i64 h.time, .int .i64 h.source]), .int .i64 n] w fun e w' => e = .returned (.int .i64 (stepV h n)) ∧ Below w.heap.size w w' := by
  have BW := Lib.hid ((Below.refl w.heap.size w).alloc (Nat.le_refl _) (.cells #[.int .i64 h.kind, .int .i64 h.tos, .int .i64 h.id, .int .i64 h.fixed, .int .i64 h.ttl, .int .i64 h.frm, .int .i64 h.to, .int .i64 h.fromPort, .int .i64 h.toPort, .int .i64 h.check, .int .i64 h.marker, .int .i64 h.type, .int .i64 h.seq, .int .i64 h.time, .int .i64 h.source] 23))
  unfold stepV
  have C := Lib.hid (Number_any h)
  generalize numV h = v at C
  go_enter Try.func37, Try.ntmps37
  go_wp2_with (first
    | (go_at_call 13; refine (C.out _).mono ?_; rintro e w1 ⟨rfl, hb⟩; have B1 := Lib.hid (BW.out.trans (hb.mono (by simp))); clear hb)
    | (go_at_call 40; refine (Signed_any _ _ _ _).mono ?_; rintro e w' ⟨rfl, rfl⟩)
    | fail)
  go_ret
  exact ⟨rfl, B1.out⟩

theorem following_any (h : Hd) (s : Int) (w : World) :
    Calls Try.prog 38 #[(.agg #[.int .i64 h.kind, .int .i64 h.tos, .int .i64 h.id, .int .i64 h.fixed, .int .i64 h.ttl, .int .i64 h.frm, .int .i64 h.to, .int .i64 h.fromPort, .int .i64 h.toPort, .int .i64 h.check, .int .i64 h.marker, .int .i64 h.type, .int .i64 h.seq, .int .i64 h.time, .int .i64 h.source]), .int .i64 s] w fun e w' => e = .returned (.int .i64 (folV h s)) ∧ Below w.heap.size w w' := by
  have BW := Lib.hid ((Below.refl w.heap.size w).alloc (Nat.le_refl _) (.cells #[.int .i64 h.kind, .int .i64 h.tos, .int .i64 h.id, .int .i64 h.fixed, .int .i64 h.ttl, .int .i64 h.frm, .int .i64 h.to, .int .i64 h.fromPort, .int .i64 h.toPort, .int .i64 h.check, .int .i64 h.marker, .int .i64 h.type, .int .i64 h.seq, .int .i64 h.time, .int .i64 h.source] 23))
  have H := Lib.hid (low_wrap 16 (h.id + s))
  go_enter Try.func38, Try.ntmps38
  go_wp2_with (go_at_call 33; refine (Low_any _ _ _).mono ?_; rintro e w' ⟨rfl, rfl⟩)
  go_ret
  exact ⟨ret_int H.out, BW.out⟩

theorem quo_in (t s : Int) (bt : -4611686018427387904 ≤ t ∧ t ≤ 4611686018427387904) : wrap64 (t.tdiv s) = t.tdiv s := by
  refine IntWalk.wrap64_in _ ?_
  have h : (t.tdiv s).natAbs = t.natAbs / s.natAbs := Int.natAbs_tdiv t s
  have h2 : t.natAbs / s.natAbs ≤ t.natAbs := Nat.div_le_self _ _
  omega
theorem stride_any (t s : Int) (w : World) (bt : -2147483648 ≤ t ∧ t ≤ 2147483647) :
    Calls Try.prog 39 #[.int .i64 t, .int .i64 s] w fun e w' => e = .returned (.int .i64 (strV t s)) ∧ w = w' := by
  unfold strV
  by_cases h0 : s = 0
  · rw [if_neg (by omega)]
    have S0 : (s == 0) = true := by rw [h0]; rfl
    clear h0
    go_enter Try.func39, Try.ntmps39
    go_wp2
    go_ret
    exact ⟨rfl, rfl⟩
  · have S0 : (s == 0) = false := by simpa using h0
    have Q := Lib.hid (quo_in t s (by omega))
    clear bt
    go_enter Try.func39, Try.ntmps39
    go_wp2_with (go_at_call 49; refine (isStride_any _ _).mono ?_; rintro e w' ⟨rfl, rfl⟩)
    all_goals go_ret
    all_goals (refine ⟨ret_int ?_, rfl⟩; (try rw [Q.out] at *) <;> (try simp_all) <;> (try omega))
end Go.Proofs.Ytphekpkkeiaccaa
