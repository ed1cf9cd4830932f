/-
  What Pack and what it calls return.
-/
import Derived.Test.YtfffmdibjeefkaaBitsPackPlain
namespace Go.Proofs.Ytfffmdibjeefkaa
open Go Go.RowKit

theorem wholeBytes_any (t : Nat) (w : World) (h : t ≤ 1000000) :
    Calls Try.prog 29 #[.int .i64 t] w fun e w' => e = .returned (.int .i64 ((t + 7) / 8 : Nat)) ∧ w = w' := by
  go_enter Try.func29, Try.ntmps29
  go_wp2
  go_ret
  exact ⟨ret_int (by omega), rfl⟩

set_option maxHeartbeats 400000 in
theorem sum_any (a : Option Addr) (n cap : Nat) (ws : List Int) (w : World) (hs : Sl .i64 w a n ws) (hn : n ≤ 256) (hw : widthTo ws n = true) :
    Calls Try.prog 30 #[.slice a n cap] w fun e w' => e = .returned (.int .i64 (sumTo ws n : Nat)) ∧ w = w' := by
  have Hs := Lib.hid hs
  have Hw := Lib.hid hw
  clear hs hw
  go_enter Try.func30, Try.ntmps30
  go_wp2
  go_loop [3, 8] (fun v k => ∃ j : Nat, j ≤ n ∧ k = .int .i64 j ∧ v = .int .i64 (sumTo ws j : Nat)) (fun _ k => n - (intOf k).toNat)
  case atStart => exact ⟨0, by omega, by simp, by simp [sumTo]⟩
  case round =>
    obtain ⟨j, hj, rfl, rfl⟩ := hrel
    by_cases hlt : j < n
    · obtain ⟨b, off, rfl⟩ := Hs.out.head (by omega)
      have hc := Hs.out.at hlt
      have hx := widthAt_yes (widthTo_all Hw.out j hlt)
      rw [hx.2.2.1] at hc
      have hle := sumTo_mono ws (show j ≤ n by omega)
      have hle2 := sumTo_le Hw.out
      have HS : Hid (sumTo ws (j + 1) = sumTo ws j + wid ws j) := rfl
      have hx2 := hx.2.2.2
      clear hx
      generalize sumTo ws j = s at HS hle
      generalize wid ws j = x at HS hc hx2
      go_wp2
      go_round
      case rel => exact ⟨j + 1, by omega, by go_num, int_eq (by rw [HS.out]; omega)⟩
      case measure => simp [intOf]; omega
    · obtain rfl : j = n := by omega
      go_wp2
      go_ret
      exact ⟨rfl, rfl⟩

set_option maxHeartbeats 800000 in
theorem Pack_any (a b : Option Addr) (n cap m cap' : Nat) (ws vs : List Int) (w : World) (hs : Sl .i64 w a n ws) (ht : Sl .i64 w b m vs) :
    Calls Try.prog 15 #[.slice a n cap, .slice b m cap'] w (RetBytes w.heap.size (packV ws vs) (packE ws vs) w) := by
  have hl := hs.reach
  have hl2 := ht.reach
  have hz := hs.len
  have hz2 := ht.len
  have hnil : ∀ w' err, w = w' → RetBytes w.heap.size [] err w (.returned (.tuple #[.slice none 0 0, .int .i64 err])) w' := by
    rintro w' err rfl; exact ⟨none, 0, 0, rfl, fun _ => rfl, Mk.nil _ _ _ _, Below.refl _ _⟩
  have Hnil := Lib.hid hnil
  clear hnil
  by_cases hr : n ≠ m ∨ 256 < n
  · obtain ⟨hv, he⟩ := pack_size (ws := ws) (vs := vs) (by omega)
    rw [hv, he]
    clear hv he hz hz2
    by_cases hne : n = m
    · subst hne
      have h2 : 256 < n := by omega
      clear hr
      go_enter Try.func15, Try.ntmps15
      go_wp2
      go_ret2
      exact Hnil.out _ _ rfl
    · clear hr
      go_enter Try.func15, Try.ntmps15
      go_wp2
      go_ret2
      exact Hnil.out _ _ rfl
  · obtain rfl : n = m := by omega
    have hn : n ≤ 256 := by omega
    have HV := Lib.hid (fun h => pack_fits hz hz2 hn h)
    have HV2 := Lib.hid (fun h => pack_range hz hz2 hn h)
    have Hs := Lib.hid hs
    have Ht := Lib.hid ht
    clear hr hs ht hz hz2
    generalize packV ws vs = out at HV HV2
    generalize packE ws vs = err at HV HV2
    go_enter Try.func15, Try.ntmps15
    go_wp2
    go_loop [24] (fun k => ∃ j : Nat, j ≤ n ∧ k = .int .i64 j ∧ fitsTo ws vs j = true) (fun k => n - (intOf k).toNat)
    case atStart => exact ⟨0, by omega, by simp, rfl⟩
    case round =>
      obtain ⟨j, hj, rfl, hfit⟩ := hrel
      have Hfit := Lib.hid hfit
      clear hfit
      by_cases hlt : j < n
      · obtain ⟨ba, oa, rfl⟩ := Hs.out.head (by omega)
        obtain ⟨bb, ob, rfl⟩ := Ht.out.head (by omega)
        have hca := Hs.out.at hlt
        have hcb := Ht.out.at hlt
        have hiw := Hs.out.i64 j
        have hiv := Ht.out.i64 j
        have HF : Hid (fitsTo ws vs (j + 1) = (fitsTo ws vs j && fitsB (ws.getD j 0) (vs.getD j 0))) := rfl
        have HF2 : Hid (fitsB (ws.getD j 0) (vs.getD j 0) = false → fitsTo ws vs n = false) := fun h => fitsTo_no hlt h
        generalize ws.getD j 0 = x at hca hiw HF HF2
        generalize vs.getD j 0 = y at hcb hiv HF HF2
        by_cases hft : fitsB x y = true
        · go_wp2_with (go_at_call 26; refine (fits_any _ _ _).mono ?_; rintro e w' ⟨rfl, rfl⟩)
          go_round
          case rel => exact ⟨j + 1, by omega, by go_num, by rw [HF.out, Hfit.out, hft]; rfl⟩
          case measure => simp [intOf]; omega
        · have hft2 : fitsB x y = false := by simpa using hft
          clear hft
          obtain ⟨e1, e2⟩ := HV2.out (HF2.out hft2)
          subst e1; subst e2
          go_wp2_with (go_at_call 26; refine (fits_any _ _ _).mono ?_; rintro e w' ⟨rfl, rfl⟩)
          go_ret2
          exact Hnil.out _ _ rfl
      · obtain rfl : j = n := by omega
        obtain ⟨e1, e2⟩ := HV.out Hfit.out
        subst e1; subst e2
        have hw := fitsTo_width Hfit.out
        have hsl := sumTo_le hw
        have Hw := Lib.hid hw
        clear hw HV HV2
        go_wp2_with (first | (go_at_call 30; refine (sum_any _ _ _ ws _ Hs.out hn Hw.out).mono ?_; rintro e w' ⟨rfl, rfl⟩) | (go_at_call 29; refine (wholeBytes_any _ _ (by omega)).mono ?_; rintro e w' ⟨rfl, rfl⟩) | (at_make; refine wpList_make_mk rfl _ _ 22 rfl .u8 5 w.heap.size 1 Try.underlying22 info5 .i64 .i64 _ _ ((sumTo ws j + 7) / 8) rfl rfl rfl rfl (by omega) (by omega) (Nat.le_refl _) rfl ?_; intro w1 hm1 hb1; have Hm1 := Lib.hid hm1; clear hm1))
        have Hb1 := Lib.hid hb1
        clear hb1
        obtain ⟨bz, HZ⟩ : ∃ l, Hid (l = List.replicate ((sumTo ws j + 7) / 8) (0 : Int)) := ⟨_, rfl⟩
        rw [← HZ.out] at Hm1
        go_loopw [9, 43] (fun t k wr => ∃ i : Nat, i ≤ j ∧ k = .int .i64 i ∧ t = .int .i64 (sumTo ws i : Nat) ∧ Mk .u8 5 w.heap.size wr (.slice (some ⟨w.heap.size, 0, none⟩) ((sumTo ws j + 7) / 8) ((sumTo ws j + 7) / 8)) ((sumTo ws j + 7) / 8) (packTo ws vs bz i) ∧ Below w.heap.size w wr) (fun _ k _ => j - (intOf k).toNat)
        case atStart => exact ⟨0, by omega, by simp, by simp [sumTo], Hm1.out, Hb1.out⟩
        case round =>
          obtain ⟨i, hi, rfl, rfl, hmi, hbi⟩ := hrel
          have Hmi := Lib.hid hmi
          have Hbi := Lib.hid hbi
          clear hmi hbi
          by_cases hlt : i < j
          · have Hs1 := Lib.hid (Hs.out.keep Hbi.out)
            have Ht1 := Lib.hid (Ht.out.keep Hbi.out)
            obtain ⟨ba, oa, rfl⟩ := Hs.out.head (by omega)
            obtain ⟨bb, ob, rfl⟩ := Ht.out.head (by omega)
            have hca := Hs1.out.at hlt
            have hcb := Ht1.out.at hlt
            have hx := fitsAt_yes (fitsTo_all Hfit.out i hlt)
            have hxw := widthAt_yes hx.1
            rw [hxw.2.2.1] at hca
            rw [hx.2.2.1] at hcb
            have Hv := Lib.hid hx.2.2.2
            have hw2 := hxw.2.2.2
            have hle := sumTo_mono ws (show i + 1 ≤ j by omega)
            have HS : Hid (sumTo ws (i + 1) = sumTo ws i + wid ws i) := rfl
            rw [HS.out] at hle
            have HP : Hid (packTo ws vs bz (i + 1) = putTo (packTo ws vs bz i) (sumTo ws i) (wid ws i) (wid vs i) (wid ws i)) := rfl
            clear hx hxw
            go_wp2_with (go_at_call 28; refine (put_any w.heap.size _ _ _ _ _ _ (packTo ws vs bz i) _ Hmi.out (by omega) (by omega) Hv.out).mono ?_; rintro e w2 ⟨rfl, hm2, hb2⟩)
            go_roundw
            case rel => exact ⟨i + 1, by omega, by go_num, int_eq (by rw [HS.out]; omega), by rw [HP.out]; exact hm2, Hbi.out.trans hb2⟩
            case measure => simp [intOf]; omega
          · obtain rfl : i = j := by omega
            go_wp2
            go_ret2
            rw [← HZ.out]
            exact ⟨_, _, _, rfl, (fun h => by cases h), Hmi.out, Hbi.out⟩
end Go.Proofs.Ytfffmdibjeefkaa
