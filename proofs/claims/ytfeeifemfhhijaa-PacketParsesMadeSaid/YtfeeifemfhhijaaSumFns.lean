/-
  What the program's functions of layer 4 return.
-/
import Derived.Test.YtfeeifemfhhijaaSumPlain
import Derived.Test.YtfeeifemfhhijaaPow
import Derived.Test.YtfeeifemfhhijaaProg
namespace Go.Proofs.Ytfeeifemfhhijaa
open Go Go.RowKit

set_option maxHeartbeats 400000 in
theorem Fold_any (x : Int) (w : World) (b : -9223372036854775808 ≤ x ∧ x ≤ 9223372036854775807) :
    Calls Try.prog 52 #[.int .i64 x] w fun e w' => e = .returned (.int .i64 (foldI x)) ∧ w = w' := by
  by_cases hx : x < 0
  · rw [fold_low x (by omega)]
    go_enter Try.func52, Try.ntmps52
    go_wp2
    go_ret
    exact ⟨rfl, rfl⟩
  · go_enter Try.func52, Try.ntmps52
    go_wp2
    go_loopw [0] (fun v wr => ∃ y : Int, v = .int .i64 y ∧ 0 ≤ y ∧ y ≤ 9223372036854775807 ∧ foldI y = foldI x ∧ w = wr) (fun v _ => (intOf v).toNat)
    case atStart => exact ⟨x, rfl, by omega, by omega, rfl, rfl⟩
    case round =>
      obtain ⟨y, rfl, h0, h1, hf, rfl⟩ := hrel
      have Hf := Lib.hid hf
      clear hf
      by_cases hlt : 65535 < y
      · have hs := fold_step y hlt
        have hl := fold_less y hlt
        have HS := Lib.hid hs
        clear hs
        go_wp2
        go_roundw
        case rel => exact ⟨_, rfl, by omega, by omega, HS.out.trans Hf.out, trivial⟩
        case measure => simp [intOf]; omega
      · go_wp2
        go_ret
        exact ⟨ret_int (by rw [← Hf.out, fold_self y h0 (by omega)]), rfl⟩

theorem i64_or_word (x y : Int) (x0 : 0 ≤ x) (x1 : x ≤ 255) (y0 : 0 ≤ y) (y1 : y ≤ 255) : bits .or .i64 (x * 256) y = 256 * x + y := by
  obtain ⟨a, rfl⟩ := Int.eq_ofNat_of_zero_le x0
  obtain ⟨b, rfl⟩ := Int.eq_ofNat_of_zero_le y0
  rw [show (a : Int) * 256 = ((2 ^ 8 * a : Nat) : Int) by omega, i64_or_nat _ _ (by omega) (by omega), ← Nat.two_pow_add_eq_or_of_lt (i := 8) (by omega)]
  omega

set_option maxHeartbeats 400000 in
theorem word_any (a : Option Addr) (n cap t : Nat) (zs : List Int) (w : World) (hs : Sl .u8 w a n zs) (ht : 2 * t < n) :
    Calls Try.prog 53 #[.slice a n cap, .int .i64 ((2 * t : Nat) : Int)] w fun e w' => e = .returned (.int .i64 (wordAt zs t)) ∧ w = w' := by
  have hr := hs.reach
  have hl := hs.len
  obtain ⟨g, off, rfl⟩ := hs.head (by omega)
  have c0 := hs.at ht
  have z0 := hs.u8 (2 * t)
  by_cases h : 2 * t + 1 < n
  · have c1 := hs.at h
    have z1 := hs.u8 (2 * t + 1)
    unfold wordAt
    generalize zs.getD (2 * t) 0 = x at c0 z0
    generalize zs.getD (2 * t + 1) 0 = y at c1 z1
    have O := Lib.hid (i64_or_word x y z0.1 z0.2 z1.1 z1.2)
    clear hs hl
    go_enter Try.func53, Try.ntmps53
    go_wp2
    go_ret
    exact ⟨ret_int O.out, rfl⟩
  · have e : zs.getD (2 * t + 1) 0 = 0 := getD_nil_after zs _ (by omega)
    unfold wordAt
    rw [e]
    generalize zs.getD (2 * t) 0 = x at c0 z0
    clear hs hl e
    go_enter Try.func53, Try.ntmps53
    go_wp2
    go_ret
    exact ⟨ret_int (by omega), rfl⟩

set_option maxHeartbeats 400000 in
theorem Add_any (s : Int) (a : Option Addr) (n cap : Nat) (zs : List Int) (w : World) (hs : Sl .u8 w a n zs) (b : -9223372036854775808 ≤ s ∧ s ≤ 9223372036854775807) :
    Calls Try.prog 48 #[.int .i64 s, .slice a n cap] w fun e w' => e = .returned (.int .i64 (addV s zs)) ∧ w = w' := by
  have hr := hs.reach
  have hl := hs.len
  have hb := hs.bytes
  have f0 := fold_range s
  have hV : addV s zs = foldI (foldI s + upTo (wordAt zs) ((n + 1) / 2)) := by unfold addV total; rw [hl]
  rw [hV]
  have Hs := Lib.hid hs
  have Hb := Lib.hid (fun t => upTo_bytes hb t)
  have HW := Lib.hid (fun t => word_range hb t)
  have HU : Hid (∀ t, upTo (wordAt zs) (t + 1) = upTo (wordAt zs) t + wordAt zs t) := fun t => rfl
  have F := Lib.hid (Fold_any s w b)
  have F0 : Hid (upTo (wordAt zs) 0 = 0) := rfl
  generalize foldI s = f at f0 F
  clear hs hl hb hV
  go_enter Try.func48, Try.ntmps48
  go_wp2_with (first
    | (go_at_call 52; refine F.out.mono ?_; rintro e w' ⟨rfl, rfl⟩)
    | fail)
  go_loopw [0, 5] (fun v i wr => ∃ t : Nat, t ≤ (n + 1) / 2 ∧ v = .int .i64 (f + upTo (wordAt zs) t) ∧ i = .int .i64 ((2 * t : Nat) : Int) ∧ w = wr) (fun _ i _ => n + 1 - (intOf i).toNat)
  case atStart => exact ⟨0, by omega, by rw [F0.out, Int.add_zero], rfl, rfl⟩
  case round =>
    obtain ⟨t, ht, rfl, rfl, rfl⟩ := hrel
    have u0 := Hb.out t
    by_cases hlt : 2 * t < n
    · have hw := HW.out t
      have U := Lib.hid (HU.out t)
      have C := Lib.hid (word_any a n cap t zs w Hs.out hlt)
      generalize wordAt zs t = x at hw U C
      generalize upTo (wordAt zs) t = y at u0 U
      go_wp2_with (first
        | (go_at_call 53; refine C.out.mono ?_; rintro e w' ⟨rfl, rfl⟩)
        | fail)
      go_roundw
      case rel => exact ⟨t + 1, by omega, by rw [U.out]; go_num, by go_num, trivial⟩
      case measure => simp [intOf]; omega
    · obtain rfl : t = (n + 1) / 2 := by omega
      generalize hy : upTo (wordAt zs) ((n + 1) / 2) = y at u0
      have HY := Lib.hid hy
      clear hy
      have F2 := Lib.hid (Fold_any (f + y) w (by omega))
      go_wp2_with (first
        | (go_at_call 52; refine F2.out.mono ?_; rintro e w' ⟨rfl, rfl⟩)
        | fail)
      go_ret
      exact ⟨ret_int (by rw [HY.out]), rfl⟩

theorem Sum_any (a : Option Addr) (n cap : Nat) (zs : List Int) (w : World) (hs : Sl .u8 w a n zs) :
    Calls Try.prog 33 #[.slice a n cap] w fun e w' => e = .returned (.int .i64 (csV zs)) ∧ w = w' := by
  have A := Lib.hid (Add_any 0 a n cap zs w hs (by omega))
  have r := addV_range 0 zs
  unfold csV
  generalize addV 0 zs = y at A r
  go_enter Try.func33, Try.ntmps33
  go_wp2_with (first
    | (go_at_call 48; refine A.out.mono ?_; rintro e w' ⟨rfl, rfl⟩)
    | fail)
  go_ret
  exact ⟨rfl, rfl⟩
end Go.Proofs.Ytfeeifemfhhijaa
