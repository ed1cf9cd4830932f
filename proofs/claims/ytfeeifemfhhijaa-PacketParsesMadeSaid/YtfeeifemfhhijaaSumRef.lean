/-
  The document's own functions of layer 4 (radiolinkref04): they return what the program's do.
-/
import Derived.Test.YtfeeifemfhhijaaSumPlain
import Derived.Test.YtfeeifemfhhijaaPow
import Derived.Test.YtfeeifemfhhijaaProg
namespace Go.Proofs.Ytfeeifemfhhijaa
open Go Go.RowKit

set_option maxHeartbeats 400000 in
theorem rFold_any (x : Int) (w : World) (b : -9223372036854775808 ≤ x ∧ x ≤ 9223372036854775807) :
    Calls Try.prog 51 #[.int .i64 x] w fun e w' => e = .returned (.int .i64 (foldI x)) ∧ w = w' := by
  by_cases hx : x < 0
  · rw [fold_low x (by omega)]
    go_enter Try.func51, Try.ntmps51
    go_wp2
    go_ret
    exact ⟨rfl, rfl⟩
  · go_enter Try.func51, Try.ntmps51
    go_wp2
    go_loopw [0] (fun v wr => ∃ y : Int, v = .int .i64 y ∧ 0 ≤ y ∧ y ≤ 9223372036854775807 ∧ foldI y = foldI x ∧ w = wr) (fun v _ => (intOf v).toNat)
    case atStart => exact ⟨x, rfl, by omega, by omega, rfl, rfl⟩
    case round =>
      obtain ⟨y, rfl, h0, h1, hf, rfl⟩ := hrel
      have Hf := Lib.hid hf
      clear hf
      by_cases hlt : 65535 < y
      · have hs := fold_step y hlt
        have hl := fold_less y hlt
        have HS := Lib.hid hs
        clear hs
        go_wp2
        go_roundw
        case rel => exact ⟨_, rfl, by omega, by omega, HS.out.trans Hf.out, trivial⟩
        case measure => simp [intOf]; omega
      · go_wp2
        go_ret
        exact ⟨ret_int (by rw [← Hf.out, fold_self y h0 (by omega)]), rfl⟩

set_option maxHeartbeats 800000 in
theorem rAdd_any (s : Int) (a : Option Addr) (n cap : Nat) (zs : List Int) (w : World) (hs : Sl .u8 w a n zs) (b : -9223372036854775808 ≤ s ∧ s ≤ 9223372036854775807) :
    Calls Try.prog 47 #[.int .i64 s, .slice a n cap] w fun e w' => e = .returned (.int .i64 (addV s zs)) ∧ w = w' := by
  have hr := hs.reach
  have hl := hs.len
  have hb := hs.bytes
  have f0 := fold_range s
  have hV : addV s zs = foldI (foldI s + upTo (wordAt zs) ((n + 1) / 2)) := by unfold addV total; rw [hl]
  rw [hV]
  have Hs := Lib.hid hs
  have Hb := Lib.hid (fun t => upTo_bytes hb t)
  have HW := Lib.hid (fun t => word_range hb t)
  have HU : Hid (∀ t, upTo (wordAt zs) (t + 1) = upTo (wordAt zs) t + wordAt zs t) := fun t => rfl
  have F := Lib.hid (rFold_any s w b)
  have F0 : Hid (foldI s = foldI (foldI s + upTo (wordAt zs) 0)) := by show foldI s = foldI (foldI s + 0); rw [Int.add_zero, fold_fold]
  have HL := Lib.hid hl
  generalize foldI s = f at f0 F F0
  clear hs hl hb hV
  go_enter Try.func47, Try.ntmps47
  go_wp2_with (first
    | (go_at_call 51; refine F.out.mono ?_; rintro e w' ⟨rfl, rfl⟩)
    | fail)
  go_loopw [5, 6] (fun v i wr => ∃ (t : Nat) (y : Int), t ≤ (n + 1) / 2 ∧ v = .int .i64 y ∧ 0 ≤ y ∧ y ≤ 65535 ∧ y = foldI (f + upTo (wordAt zs) t) ∧ i = .int .i64 ((2 * t : Nat) : Int) ∧ w = wr) (fun _ i _ => n + 1 - (intOf i).toNat)
  case atStart => exact ⟨0, f, by omega, rfl, f0.1, f0.2, F0.out, rfl, rfl⟩
  case round =>
    obtain ⟨t, y, ht, rfl, y0, y1, hy, rfl, rfl⟩ := hrel
    have HY := Lib.hid hy
    have u0 := Hb.out t
    clear hy
    by_cases hlt : 2 * t < n
    · obtain ⟨g, off, rfl⟩ := Hs.out.head (by omega)
      have c0 := Hs.out.at hlt
      have z0 := Hs.out.u8 (2 * t)
      have hw := HW.out t
      have HN : Hid (foldI (y + wordAt zs t) = foldI (f + upTo (wordAt zs) (t + 1))) := by show _ = _; rw [HY.out, HU.out t, fold_add _ _ (by omega) (by omega), Int.add_assoc]
      have HR := Lib.hid (fold_range (y + wordAt zs t))
      by_cases h : 2 * t + 1 < n
      · have c1 := Hs.out.at h
        have z1 := Hs.out.u8 (2 * t + 1)
        unfold wordAt at HN hw HR
        generalize zs.getD (2 * t) 0 = p at c0 z0 HN hw HR
        generalize zs.getD (2 * t + 1) 0 = q at c1 z1 HN hw HR
        have F2 := Lib.hid (rFold_any (y + (256 * p + q)) w (by omega))
        generalize foldI (y + (256 * p + q)) = r at HN HR F2
        clear u0
        go_wp2_with (first
          | (go_at_call 51; refine F2.out.mono ?_; rintro e w' ⟨rfl, rfl⟩)
          | fail)
        go_roundw
        case rel => exact ⟨t + 1, r, by omega, rfl, HR.out.1, HR.out.2, HN.out, by go_num, trivial⟩
        case measure => simp [intOf] <;> omega
      · have e : zs.getD (2 * t + 1) 0 = 0 := getD_nil_after zs _ (by have := HL.out; omega)
        unfold wordAt at HN hw HR
        rw [e, Int.add_zero] at HN hw HR
        clear e
        generalize zs.getD (2 * t) 0 = p at c0 z0 HN hw HR
        have F2 := Lib.hid (rFold_any (y + 256 * p) w (by omega))
        generalize foldI (y + 256 * p) = r at HN HR F2
        clear u0
        go_wp2_with (first
          | (go_at_call 51; refine F2.out.mono ?_; rintro e w' ⟨rfl, rfl⟩)
          | fail)
        go_roundw
        case rel => exact ⟨t + 1, r, by omega, rfl, HR.out.1, HR.out.2, HN.out, by go_num, trivial⟩
        case measure => simp [intOf] <;> omega
    · obtain rfl : t = (n + 1) / 2 := by omega
      clear u0
      go_wp2
      go_ret
      exact ⟨ret_int HY.out, rfl⟩

theorem rSum_any (a : Option Addr) (n cap : Nat) (zs : List Int) (w : World) (hs : Sl .u8 w a n zs) :
    Calls Try.prog 31 #[.slice a n cap] w fun e w' => e = .returned (.int .i64 (csV zs)) ∧ w = w' := by
  have A := Lib.hid (rAdd_any 0 a n cap zs w hs (by omega))
  have r := addV_range 0 zs
  unfold csV
  generalize addV 0 zs = y at A r
  go_enter Try.func31, Try.ntmps31
  go_wp2_with (first
    | (go_at_call 47; refine A.out.mono ?_; rintro e w' ⟨rfl, rfl⟩)
    | fail)
  go_ret
  exact ⟨rfl, rfl⟩
end Go.Proofs.Ytfeeifemfhhijaa
