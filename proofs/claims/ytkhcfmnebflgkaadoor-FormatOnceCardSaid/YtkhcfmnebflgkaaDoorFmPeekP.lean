/-
  The program's formatOf, Peek, kindOf, hasChecksum of layer 8. (gen_peekp.py writes this text.)
-/
import Derived.Test.YtkhcfmnebflgkaaDoorFmEncP
import Derived.Test.YtkhcfmnebflgkaaDoorJLow
import Derived.Deep.QuietTactic
import Derived.BigQuiet
namespace Go.Proofs.YtkhcfmnebflgkaaDoor
open Go Go.RowKit

def fmtNot (c : Int) (k : Nat) : Prop := (2 ≤ k → 128 ≤ c) ∧ (3 ≤ k → 192 ≤ c) ∧ (4 ≤ k → c ≠ 192 ∧ c ≠ 193) ∧ (5 ≤ k → c ≠ 208) ∧ (6 ≤ k → c ≠ 209) ∧ (7 ≤ k → c ≠ 210)
def Quiet (w w' : World) : Prop := ∃ n, w' = w.drewN n
theorem and_mask4 : ∀ x : Nat, x < 256 → bits .and .u8 (x : Int) 15 = (x : Int) % 16 := by decide +kernel
theorem quiet_then {w w1 w2 : World} (h : Quiet w w1) (n : Nat) (e : w2 = w1.drewN n) : Quiet w w2 := by
  obtain ⟨m, rfl⟩ := h
  subst e
  exact ⟨m + n, by simp [World.drewN_drewN]⟩
set_option maxRecDepth 100000 in
set_option maxHeartbeats 6400000 in
theorem formatOf_any (c : Int) (w : World) (h0 : 0 ≤ c) (h1 : c ≤ 255) (hs : St w) :
    Calls Tryd.prog 51 #[.int .i64 c] w fun e w' => e = .returned (.int .i64 (fmtOf c 0)) ∧ ∃ n, w' = w.drewN n := by
  have HS := Lib.hid hs
  clear hs
  go_enter Tryd.func51, Tryd.ntmps51
  go_wp2
  go_loopw [3] (fun s3 wr => ∃ k : Nat, 1 ≤ k ∧ k ≤ 7 ∧ s3 = .int .i64 k ∧ fmtNot c k ∧ ∃ n, wr = w.drewN n) (fun s3 _ => 7 - (intOf s3).toNat)
  case atStart => exact ⟨1, by omega, by omega, rfl, ⟨by omega, by omega, by omega, by omega, by omega, by omega⟩, 0, rfl⟩
  case round =>
    obtain ⟨k, k1, k7, rfl, hn, n, rfl⟩ := hrel
    rcases (show k = 1 ∨ k = 2 ∨ k = 3 ∨ k = 4 ∨ k = 5 ∨ k = 6 ∨ k = 7 by omega) with rfl | rfl | rfl | rfl | rfl | rfl | rfl
    · have c0 : w.cell? ⟨0, 2, none⟩ = some (.int .i64 1) := HS.out _ _ rfl
      have c1 : w.cell? ⟨0, 3, none⟩ = some (.int .i64 0) := HS.out _ _ rfl
      have HN := Lib.hid hn
      clear hn
      by_cases hm : c / 128 = 0
      · have t : (c / 128 == 0) = true := by simpa using hm
        have HR : Hid (fmtOf c 0 = 1) := by
          refine Lib.hid ?_
          obtain ⟨n2, n3, n4, n5, n6, n7⟩ := HN.out
          unfold fmtOf; (repeat' split) <;> omega
        clear hm
        go_wp2_with fail
        go_quiet (fail)
        go_wp2
        go_ret
        exact ⟨by rw [HR.out]; rfl, _, by first | rfl | exact World.drewN_drewN _ _ _⟩
      · have t : (c / 128 == 0) = false := by simpa using hm
        have HR : Hid (fmtNot c 2) := by
          refine Lib.hid ?_
          obtain ⟨n2, n3, n4, n5, n6, n7⟩ := HN.out
          exact ⟨by omega, by omega, by omega, by omega, by omega, by omega⟩
        clear hm
        go_wp2_with fail
        go_quiet (fail)
        go_wp2
        go_roundw
        case rel => exact ⟨2, by omega, by omega, by go_num, HR.out, _, by first | rfl | exact World.drewN_drewN _ _ _⟩
        case measure => simp [intOf]
    · have c0 : w.cell? ⟨0, 4, none⟩ = some (.int .i64 2) := HS.out _ _ rfl
      have c1 : w.cell? ⟨0, 5, none⟩ = some (.int .i64 2) := HS.out _ _ rfl
      have HN := Lib.hid hn
      clear hn
      by_cases hm : c / 64 = 2
      · have t : (c / 64 == 2) = true := by simpa using hm
        have HR : Hid (fmtOf c 0 = 2) := by
          refine Lib.hid ?_
          obtain ⟨n2, n3, n4, n5, n6, n7⟩ := HN.out
          unfold fmtOf; (repeat' split) <;> omega
        clear hm
        go_wp2_with fail
        go_quiet (fail)
        go_wp2
        go_ret
        exact ⟨by rw [HR.out]; rfl, _, by first | rfl | exact World.drewN_drewN _ _ _⟩
      · have t : (c / 64 == 2) = false := by simpa using hm
        have HR : Hid (fmtNot c 3) := by
          refine Lib.hid ?_
          obtain ⟨n2, n3, n4, n5, n6, n7⟩ := HN.out
          exact ⟨by omega, by omega, by omega, by omega, by omega, by omega⟩
        clear hm
        go_wp2_with fail
        go_quiet (fail)
        go_wp2
        go_roundw
        case rel => exact ⟨3, by omega, by omega, by go_num, HR.out, _, by first | rfl | exact World.drewN_drewN _ _ _⟩
        case measure => simp [intOf]
    · have c0 : w.cell? ⟨0, 6, none⟩ = some (.int .i64 7) := HS.out _ _ rfl
      have c1 : w.cell? ⟨0, 7, none⟩ = some (.int .i64 96) := HS.out _ _ rfl
      have HN := Lib.hid hn
      clear hn
      by_cases hm : c / 2 = 96
      · have t : (c / 2 == 96) = true := by simpa using hm
        have HR : Hid (fmtOf c 0 = 3) := by
          refine Lib.hid ?_
          obtain ⟨n2, n3, n4, n5, n6, n7⟩ := HN.out
          unfold fmtOf; (repeat' split) <;> omega
        clear hm
        go_wp2_with fail
        go_quiet (fail)
        go_wp2
        go_ret
        exact ⟨by rw [HR.out]; rfl, _, by first | rfl | exact World.drewN_drewN _ _ _⟩
      · have t : (c / 2 == 96) = false := by simpa using hm
        have HR : Hid (fmtNot c 4) := by
          refine Lib.hid ?_
          obtain ⟨n2, n3, n4, n5, n6, n7⟩ := HN.out
          exact ⟨by omega, by omega, by omega, by omega, by omega, by omega⟩
        clear hm
        go_wp2_with fail
        go_quiet (fail)
        go_wp2
        go_roundw
        case rel => exact ⟨4, by omega, by omega, by go_num, HR.out, _, by first | rfl | exact World.drewN_drewN _ _ _⟩
        case measure => simp [intOf]
    · have c0 : w.cell? ⟨0, 8, none⟩ = some (.int .i64 8) := HS.out _ _ rfl
      have c1 : w.cell? ⟨0, 9, none⟩ = some (.int .i64 208) := HS.out _ _ rfl
      have HN := Lib.hid hn
      clear hn
      by_cases hm : c = 208
      · have t : (c == 208) = true := by simpa using hm
        have HR : Hid (fmtOf c 0 = 4) := by
          refine Lib.hid ?_
          obtain ⟨n2, n3, n4, n5, n6, n7⟩ := HN.out
          unfold fmtOf; (repeat' split) <;> omega
        clear hm
        go_wp2_with fail
        go_quiet (fail)
        go_wp2
        go_ret
        exact ⟨by rw [HR.out]; rfl, _, by first | rfl | exact World.drewN_drewN _ _ _⟩
      · have t : (c == 208) = false := by simpa using hm
        have HR : Hid (fmtNot c 5) := by
          refine Lib.hid ?_
          obtain ⟨n2, n3, n4, n5, n6, n7⟩ := HN.out
          exact ⟨by omega, by omega, by omega, by omega, by omega, by omega⟩
        clear hm
        go_wp2_with fail
        go_quiet (fail)
        go_wp2
        go_roundw
        case rel => exact ⟨5, by omega, by omega, by go_num, HR.out, _, by first | rfl | exact World.drewN_drewN _ _ _⟩
        case measure => simp [intOf]
    · have c0 : w.cell? ⟨0, 10, none⟩ = some (.int .i64 8) := HS.out _ _ rfl
      have c1 : w.cell? ⟨0, 11, none⟩ = some (.int .i64 209) := HS.out _ _ rfl
      have HN := Lib.hid hn
      clear hn
      by_cases hm : c = 209
      · have t : (c == 209) = true := by simpa using hm
        have HR : Hid (fmtOf c 0 = 5) := by
          refine Lib.hid ?_
          obtain ⟨n2, n3, n4, n5, n6, n7⟩ := HN.out
          unfold fmtOf; (repeat' split) <;> omega
        clear hm
        go_wp2_with fail
        go_quiet (fail)
        go_wp2
        go_ret
        exact ⟨by rw [HR.out]; rfl, _, by first | rfl | exact World.drewN_drewN _ _ _⟩
      · have t : (c == 209) = false := by simpa using hm
        have HR : Hid (fmtNot c 6) := by
          refine Lib.hid ?_
          obtain ⟨n2, n3, n4, n5, n6, n7⟩ := HN.out
          exact ⟨by omega, by omega, by omega, by omega, by omega, by omega⟩
        clear hm
        go_wp2_with fail
        go_quiet (fail)
        go_wp2
        go_roundw
        case rel => exact ⟨6, by omega, by omega, by go_num, HR.out, _, by first | rfl | exact World.drewN_drewN _ _ _⟩
        case measure => simp [intOf]
    · have c0 : w.cell? ⟨0, 12, none⟩ = some (.int .i64 8) := HS.out _ _ rfl
      have c1 : w.cell? ⟨0, 13, none⟩ = some (.int .i64 210) := HS.out _ _ rfl
      have HN := Lib.hid hn
      clear hn
      by_cases hm : c = 210
      · have t : (c == 210) = true := by simpa using hm
        have HR : Hid (fmtOf c 0 = 6) := by
          refine Lib.hid ?_
          obtain ⟨n2, n3, n4, n5, n6, n7⟩ := HN.out
          unfold fmtOf; (repeat' split) <;> omega
        clear hm
        go_wp2_with fail
        go_quiet (fail)
        go_wp2
        go_ret
        exact ⟨by rw [HR.out]; rfl, _, by first | rfl | exact World.drewN_drewN _ _ _⟩
      · have t : (c == 210) = false := by simpa using hm
        have HR : Hid (fmtNot c 7) := by
          refine Lib.hid ?_
          obtain ⟨n2, n3, n4, n5, n6, n7⟩ := HN.out
          exact ⟨by omega, by omega, by omega, by omega, by omega, by omega⟩
        clear hm
        go_wp2_with fail
        go_quiet (fail)
        go_wp2
        go_roundw
        case rel => exact ⟨7, by omega, by omega, by go_num, HR.out, _, by first | rfl | exact World.drewN_drewN _ _ _⟩
        case measure => simp [intOf]
    · have HR : Hid (fmtOf c 0 = 0) := by
        refine Lib.hid ?_
        obtain ⟨n2, n3, n4, n5, n6, n7⟩ := hn
        unfold fmtOf; (repeat' split) <;> omega
      clear hn
      go_wp2
      go_ret
      exact ⟨by rw [HR.out]; rfl, n, rfl⟩

theorem ret_peek {a b c : Int} {p : Int × Int × Int} (h : p = (a, b, c)) : Ending.returned (.tuple #[.int .i64 a, .int .i64 b, .int .i64 c]) = .returned (.tuple #[.int .i64 p.1, .int .i64 p.2.1, .int .i64 p.2.2]) := by rw [h]
set_option maxRecDepth 100000 in
set_option maxHeartbeats 6400000 in
theorem Peek_any (a : Option Addr) (n cap : Nat) (zs : List Int) (w : World) (sl : Sl .u8 w a n zs) (hcap : n ≤ cap) (hs : St w) :
    Calls Tryd.prog 21 #[.slice a n cap] w fun e w' => e = .returned (.tuple #[.int .i64 (peekV zs).1, .int .i64 (peekV zs).2.1, .int .i64 (peekV zs).2.2]) ∧ ∃ n, w' = w.drewN n := by
  have hl := sl.len
  have hr := sl.reach
  by_cases h0 : n = 0
  · subst h0
    have HP : Hid (peekV zs = (0, 0, 5)) := by show _ = _; unfold peekV; rw [if_pos hl]
    clear sl hs
    go_enter Tryd.func21, Tryd.ntmps21
    go_wp2_with fail
    go_ret3
    exact ⟨ret_peek HP.out, 0, rfl⟩
  · obtain ⟨b, off, rfl⟩ := sl.head (by omega)
    have c0 := sl.at (i := 0) (by omega)
    rw [Nat.add_zero] at c0
    have z0 := sl.u8 0
    have hn0 : (0 : Int) < (n : Int) := by omega
    have hn1 : ((n : Int) == 0) = false := by simp; omega
    have HP : Hid (peekV zs = if zs.getD 0 0 / 16 = 14 then (if n = 1 then (0, 0, 5) else if zs.getD 0 0 % 16 = 0 then (0, 0, 4) else peekAt (zs.getD 1 0) (zs.getD 0 0 % 16)) else peekAt (zs.getD 0 0) 0) := by show _ = _; unfold peekV; rw [if_neg (by omega), hl]
    by_cases hc : zs.getD 0 0 / 16 = 14
    · rw [if_pos hc] at HP
      have hc2 : (zs.getD 0 0 / 16 == 14) = true := by simpa using hc
      have hand : bits .and .u8 (zs.getD 0 0) 15 = zs.getD 0 0 % 16 := by
        have := and_mask4 (zs.getD 0 0).toNat (by omega)
        rw [show ((zs.getD 0 0).toNat : Int) = zs.getD 0 0 by omega] at this
        exact this
      by_cases h1 : n = 1
      · rw [if_pos h1] at HP
        obtain ⟨PA, hif⟩ : ∃ PA, (if cap = 1 then (some ⟨b, off, none⟩ : Option Addr) else some ⟨b, off + 1, none⟩) = PA := ⟨_, rfl⟩
        subst h1
        generalize zs.getD 0 0 = c at c0 z0 hc2 HP hand
        generalize peekV zs = p at HP ⊢
        clear sl hc hl hs
        go_enter Tryd.func21, Tryd.ntmps21
        go_wp2_with fail
        all_goals go_ret3
        all_goals exact ⟨ret_peek HP.out, 0, rfl⟩
      · rw [if_neg h1] at HP
        have c1 := sl.at (i := 1) (by omega)
        have z1 := sl.u8 1
        have FO := Lib.hid (formatOf_any (zs.getD 1 0) w z1.1 z1.2 hs)
        have hcp : ¬ cap = 1 := by omega
        have hn2 : ((n : Int) - 1 == 0) = false := by simp; omega
        have hn3 : (0 : Int) < (n : Int) - 1 := by omega
        generalize zs.getD 0 0 = c at c0 z0 hc2 HP hand
        generalize zs.getD 1 0 = y at c1 z1 HP FO
        generalize peekV zs = p at HP ⊢
        have HF : Hid (peekAt y (c % 16) = if fmtOf y 0 = 0 then (0, 0, 4) else if c % 16 = 0 then (if fmtOf y 0 = 0 then (0, 0, 4) else (0, fmtOf y 0, 0)) else if fmtOf y 0 = 6 then (0, 0, 4) else (c % 16, fmtOf y 0, 0)) := by
          refine Lib.hid ?_
          unfold peekAt fmtOf
          (repeat' split) <;> first | rfl | (exfalso; omega) | (simp; omega)
        generalize fmtOf y 0 = f at FO HF
        generalize peekAt y (c % 16) = q at HF HP
        clear sl hc hl h1 hs
        have hx0 : 0 ≤ c % 16 := by omega
        have hx1 : c % 16 ≤ 15 := by omega
        generalize c % 16 = x at hand HP HF hx0 hx1
        have HQ : Hid (p = if f = 0 then (0, 0, 4) else if x = 0 then (0, 0, 4) else if f = 6 then (0, 0, 4) else (x, f, 0)) := Lib.hid (by
          have h := HP.out
          rw [HF.out] at h
          rw [h]
          (repeat' split) <;> rfl)
        clear HF HP
        cases g0 : (f == 0) <;> cases g6 : (f == 6) <;> cases gx : (x == 0)
        all_goals first
          | (exfalso; simp at g0 g6; omega)
          | (go_enter Tryd.func21, Tryd.ntmps21
             go_wp2_with (first | (go_at_call 51; ((with_reducible refine FO.out.mono ?_); rintro e w' ⟨rfl, m, rfl⟩)) | fail)
             go_ret3
             refine ⟨ret_peek (HQ.out.trans ?_), m, rfl⟩
             simp only [beq_iff_eq, beq_eq_false_iff_ne, ne_eq] at g0 g6 gx
             simp [g0, g6, gx])
    · rw [if_neg hc] at HP
      have hc2 : (zs.getD 0 0 / 16 == 14) = false := by simpa using hc
      have FO := Lib.hid (formatOf_any (zs.getD 0 0) w z0.1 z0.2 hs)
      have HQ : Hid (peekV zs = if fmtOf (zs.getD 0 0) 0 = 0 then (0, 0, 4) else (0, fmtOf (zs.getD 0 0) 0, 0)) := Lib.hid (by rw [HP.out]; rfl)
      generalize zs.getD 0 0 = c at c0 z0 hc2 HQ FO
      generalize fmtOf c 0 = f at FO HQ
      generalize peekV zs = p at HQ ⊢
      clear sl hc hl hs HP
      cases g0 : (f == 0)
      all_goals
        go_enter Tryd.func21, Tryd.ntmps21
        go_wp2_with (first | (go_at_call 51; ((with_reducible refine FO.out.mono ?_); rintro e w' ⟨rfl, m, rfl⟩)) | fail)
        go_ret3
        refine ⟨ret_peek (HQ.out.trans ?_), m, rfl⟩
        simp only [beq_iff_eq, beq_eq_false_iff_ne, ne_eq] at g0
        simp [g0]

/-- the kind of a flow, and the error -/
def kindV (zs : List Int) (f k : Int) : Int × Int :=
  if f = 6 then (0, 0) else if f = 5 then (if zs.length < 2 then (0, 5) else if zs.getD 1 0 = 1 ∨ zs.getD 1 0 = 2 then (zs.getD 1 0, 0) else (0, 4)) else if k = 1 ∨ k = 2 then (k, 0) else (0, 7)
theorem ret_kind {a b : Int} {p : Int × Int} (h : p = (a, b)) : Ending.returned (.tuple #[.int .i64 a, .int .i64 b]) = .returned (.tuple #[.int .i64 p.1, .int .i64 p.2]) := by rw [h]
set_option maxRecDepth 100000 in
set_option maxHeartbeats 6400000 in
theorem kindOf_any (a : Option Addr) (n cap : Nat) (zs : List Int) (f k : Int) (w : World) (sl : Sl .u8 w a n zs) :
    Calls Tryd.prog 52 #[.slice a n cap, .int .i64 f, .int .i64 k] w fun e w' => e = .returned (.tuple #[.int .i64 (kindV zs f k).1, .int .i64 (kindV zs f k).2]) ∧ w = w' := by
  have hl := sl.len
  have hr := sl.reach
  by_cases f6 : f = 6
  · have HP : Hid (kindV zs f k = (0, 0)) := Lib.hid (by unfold kindV; rw [if_pos f6])
    have g6 : (f == 6) = true := by simpa using f6
    clear f6 sl hl
    go_enter Tryd.func52, Tryd.ntmps52
    go_wp2_with fail
    go_ret2
    exact ⟨ret_kind HP.out, rfl⟩
  · have g6 : (f == 6) = false := by simpa using f6
    by_cases f5 : f = 5
    · have g5 : (f == 5) = true := by simpa using f5
      by_cases hn : n < 2
      · have HP : Hid (kindV zs f k = (0, 5)) := Lib.hid (by unfold kindV; rw [if_neg f6, if_pos f5, if_pos (by omega)])
        have hd : decide ((n : Int) < 2) = true := by simp; omega
        clear f6 f5 sl hl hn
        go_enter Tryd.func52, Tryd.ntmps52
        go_wp2_with fail
        go_ret2
        exact ⟨ret_kind HP.out, rfl⟩
      · obtain ⟨b, off, rfl⟩ := sl.head (by omega)
        have c1 := sl.at (i := 1) (by omega)
        have z1 := sl.u8 1
        have hd : decide ((n : Int) < 2) = false := by simp; omega
        have h1n : (1 : Int) < (n : Int) := by omega
        have HP : Hid (kindV zs f k = if zs.getD 1 0 = 1 ∨ zs.getD 1 0 = 2 then (zs.getD 1 0, 0) else (0, 4)) := Lib.hid (by unfold kindV; rw [if_neg f6, if_pos f5, if_neg (by omega)])
        have IK := Lib.hid (fun W => isKind_any (zs.getD 1 0) W)
        generalize zs.getD 1 0 = y at c1 z1 HP IK
        have HB : Hid ((y == 1 || y == 2) = decide (y = 1 ∨ y = 2)) := Lib.hid (by simp [Bool.beq_eq_decide_eq])
        cases g : (y == 1 || y == 2)
        all_goals
          rw [g] at IK HB
          clear g f6 f5 sl hl hn
          go_enter Tryd.func52, Tryd.ntmps52
          go_wp2_with (first | (go_at_call 36; ((with_reducible refine (IK.out _).mono ?_); rintro e w' ⟨rfl, rfl⟩)) | fail)
          go_ret2
          refine ⟨ret_kind (HP.out.trans ?_), rfl⟩
          have h := HB.out.symm
          simp only [decide_eq_true_eq, decide_eq_false_iff_not] at h
          first | rw [if_pos h] | rw [if_neg h]
    · have g5 : (f == 5) = false := by simpa using f5
      have HP : Hid (kindV zs f k = if k = 1 ∨ k = 2 then (k, 0) else (0, 7)) := Lib.hid (by unfold kindV; rw [if_neg f6, if_neg f5])
      have IK := Lib.hid (fun W => isKind_any k W)
      have HB : Hid ((k == 1 || k == 2) = decide (k = 1 ∨ k = 2)) := Lib.hid (by simp [Bool.beq_eq_decide_eq])
      cases g : (k == 1 || k == 2)
      all_goals
        rw [g] at IK HB
        clear g f6 f5 sl hl
        go_enter Tryd.func52, Tryd.ntmps52
        go_wp2_with (first | (go_at_call 36; ((with_reducible refine (IK.out _).mono ?_); rintro e w' ⟨rfl, rfl⟩)) | fail)
        go_ret2
        refine ⟨ret_kind (HP.out.trans ?_), rfl⟩
        have h := HB.out.symm
        simp only [decide_eq_true_eq, decide_eq_false_iff_not] at h
        first | rw [if_pos h] | rw [if_neg h]

theorem hasChecksum_any (G : Nat) (f ck : Int) (c : Bool) (w : World) (hf : w.cell? ⟨G, 1, none⟩ = some (.int .i64 f)) (hk : w.cell? ⟨G, 27, none⟩ = some (.int .i64 ck)) :
    Calls Tryd.prog 67 #[.pointer (some ⟨G, 0, none⟩), .bool c] w fun e w' => e = .returned (.bool (if f = 1 ∨ f = 2 ∨ f = 3 then c else ck == 1)) ∧ w = w' := by
  have go : ∀ (b1 b2 b3 : Bool), (f == 1) = b1 → (f == 2) = b2 → (f == 3) = b3 → Calls Tryd.prog 67 #[.pointer (some ⟨G, 0, none⟩), .bool c] w fun e w' => e = .returned (.bool (if (b1 || b2 || b3) = true then c else ck == 1)) ∧ w = w' := by
    intro b1 b2 b3 h1 h2 h3
    cases b1 <;> cases b2 <;> cases b3
    all_goals
      go_enter Tryd.func67, Tryd.ntmps67
      go_wp2_with fail
      go_ret
      exact ⟨rfl, rfl⟩
  have e : (if f = 1 ∨ f = 2 ∨ f = 3 then c else ck == 1) = if ((f == 1) || (f == 2) || (f == 3)) = true then c else ck == 1 := by simp [or_assoc]
  rw [e]
  exact go _ _ _ rfl rfl rfl
end Go.Proofs.YtkhcfmnebflgkaaDoor
