/-
  What the document's own Pack returns.
-/
import Derived.Test.YtfffmdibjeefkaaBitsPack
import Derived.Test.YtfffmdibjeefkaaBitsRefWrite
import Derived.Deep.QuietTactic
import Derived.BigQuiet
import Derived.Deep.RegionHeld3
namespace Go.Proofs.Ytfffmdibjeefkaa
open Go Go.RowKit

theorem writeV_ok (zs : List Int) (P N V : Nat) (hN : N ≤ 32) (hV : V < 2 ^ N) (hb : P + N ≤ 8 * zs.length) : writeV zs P N V = putTo zs P N V N := by
  unfold writeV
  have e : ((2 : Int) ^ N) = ((2 ^ N : Nat) : Int) := by simp
  have hc : ¬ ((N : Int) < 0 ∨ 32 < (N : Int) ∨ (V : Int) < 0 ∨ (2 : Int) ^ (N : Int).toNat ≤ (V : Int) ∨ (P : Int) < 0) := by
    rw [Int.toNat_natCast, e]; omega
  rw [if_neg hc, if_neg (by omega)]; simp

set_option maxHeartbeats 1600000 in
theorem refPack_any (a b : Option Addr) (n cap m cap' : Nat) (ws vs : List Int) (w : World) (hs : Sl .i64 w a n ws) (ht : Sl .i64 w b m vs) :
    Calls Try.prog 16 #[.slice a n cap, .slice b m cap'] w (RetBytes w.heap.size (packV ws vs) (packE ws vs) w) := by
  have hl := hs.reach
  have hl2 := ht.reach
  have hz := hs.len
  have hz2 := ht.len
  have hnil : ∀ w' err, Below w.heap.size w w' → RetBytes w.heap.size [] err w (.returned (.tuple #[.slice none 0 0, .int .i64 err])) w' := by
    intro w' err hb; exact ⟨none, 0, 0, rfl, fun _ => rfl, Mk.nil _ _ _ _, hb⟩
  have Hnil := Lib.hid hnil
  clear hnil
  by_cases hr : n ≠ m ∨ 256 < n
  · obtain ⟨hv, he⟩ := pack_size (ws := ws) (vs := vs) (by omega)
    rw [hv, he]
    clear hv he hz hz2
    by_cases hne : n = m
    · subst hne
      have h2 : 256 < n := by omega
      clear hr
      go_enter Try.func16, Try.ntmps16
      go_wp2
      go_ret2
      exact Hnil.out _ _ (Below.refl _ _)
    · clear hr
      go_enter Try.func16, Try.ntmps16
      go_wp2
      go_ret2
      exact Hnil.out _ _ (Below.refl _ _)
  · obtain rfl : n = m := by omega
    have hn : n ≤ 256 := by omega
    have HV := Lib.hid (fun h => pack_fits hz hz2 hn h)
    have HV2 := Lib.hid (fun h => pack_range hz hz2 hn h)
    have Hs := Lib.hid hs
    have Ht := Lib.hid ht
    clear hr hs ht hz hz2
    generalize packV ws vs = out at HV HV2
    generalize packE ws vs = err at HV HV2
    go_enter Try.func16, Try.ntmps16
    go_wp2
    go_loopw [6, 7] (fun t k wr => ∃ j : Nat, j ≤ n ∧ k = .int .i64 j ∧ t = .int .i64 (sumTo ws j : Nat) ∧ fitsTo ws vs j = true ∧ Below w.heap.size w wr) (fun _ k _ => n - (intOf k).toNat)
    case atStart => exact ⟨0, by omega, by simp, by simp [sumTo], rfl, Below.refl _ _⟩
    case round =>
      obtain ⟨j, hj, rfl, rfl, hfit, hbj⟩ := hrel
      have Hfit := Lib.hid hfit
      have Hbj := Lib.hid hbj
      clear hfit hbj
      by_cases hlt : j < n
      · have Hs1 := Lib.hid (Hs.out.keep Hbj.out)
        have Ht1 := Lib.hid (Ht.out.keep Hbj.out)
        obtain ⟨ba, oa, rfl⟩ := Hs.out.head (by omega)
        obtain ⟨bb, ob, rfl⟩ := Ht.out.head (by omega)
        have hca := Hs1.out.at hlt
        have hcb := Ht1.out.at hlt
        have hiw := Hs1.out.i64 j
        have hiv := Ht1.out.i64 j
        have hle := sumTo_le (fitsTo_width Hfit.out)
        have h0j : (0 : Int) ≤ (j : Int) := by omega
        have hjn : (j : Int) < (n : Int) := by omega
        have HF : Hid (fitsTo ws vs (j + 1) = (fitsTo ws vs j && fitsB (ws.getD j 0) (vs.getD j 0))) := rfl
        have HF2 : Hid (fitsB (ws.getD j 0) (vs.getD j 0) = false → fitsTo ws vs n = false) := fun h => fitsTo_no hlt h
        have HS : Hid (sumTo ws (j + 1) = sumTo ws j + (ws.getD j 0).toNat) := rfl
        generalize ws.getD j 0 = x at hca hiw HF HF2 HS
        generalize vs.getD j 0 = y at hcb hiv HF HF2
        generalize sumTo ws j = s at HS hle
        by_cases g0 : x < 0
        · obtain ⟨e1, e2⟩ := HV2.out (HF2.out (fitsB_no (by omega)))
          subst e1; subst e2
          go_wp2
          go_quiet (fail)
          go_wp2
          go_ret2
          exact Hnil.out _ _ (below_drewN Hbj.out _)
        · have d0 : decide (x < 0) = false := decide_eq_false g0
          by_cases g1 : 32 < x
          · obtain ⟨e1, e2⟩ := HV2.out (HF2.out (fitsB_no (by omega)))
            subst e1; subst e2
            go_wp2
            go_quiet (fail)
            go_wp2
            go_ret2
            exact Hnil.out _ _ (below_drewN Hbj.out _)
          · have d1 : decide (32 < x) = false := decide_eq_false g1
            by_cases g2 : y < 0
            · obtain ⟨e1, e2⟩ := HV2.out (HF2.out (fitsB_no (by omega)))
              subst e1; subst e2
              go_wp2
              go_quiet (fail)
              go_wp2
              go_ret2
              exact Hnil.out _ _ (below_drewN Hbj.out _)
            · have d2 : decide (y < 0) = false := decide_eq_false g2
              obtain ⟨X, rfl⟩ := Int.eq_ofNat_of_zero_le (show 0 ≤ x by omega)
              have hX : X ≤ 32 := by omega
              by_cases g3 : (2 : Int) ^ X ≤ y
              · have d3 : decide (wrap64 (2 ^ X) ≤ y) = true := by rw [wrap_pow X hX]; exact decide_eq_true g3
                obtain ⟨e1, e2⟩ := HV2.out (HF2.out (fitsB_no (fun h => by have := h.2.2.2; simp at this; omega)))
                subst e1; subst e2
                clear g3
                go_wp2
                go_quiet (fail)
                go_wp2
                go_ret2
                exact Hnil.out _ _ (below_drewN Hbj.out _)
              · have d3 : decide (wrap64 (2 ^ X) ≤ y) = false := by rw [wrap_pow X hX]; exact decide_eq_false g3
                have HG : Hid (fitsB X y = true) := fitsB_yes ⟨by omega, by omega, by omega, by simp; omega⟩
                clear g3
                go_wp2
                go_quiet (fail)
                go_wp2
                go_roundw
                case rel => exact ⟨j + 1, by omega, by go_num, int_eq (by rw [HS.out]; simp), by rw [HF.out, Hfit.out, HG.out]; rfl, below_drewN Hbj.out _⟩
                case measure => simp [intOf]; omega
      · obtain rfl : j = n := by omega
        obtain ⟨e1, e2⟩ := HV.out Hfit.out
        subst e1; subst e2
        have hw := fitsTo_width Hfit.out
        have hsl := sumTo_le hw
        have Hw := Lib.hid hw
        clear hw HV HV2
        obtain ⟨wo, rfl⟩ : ∃ wo : World, wo = wr := ⟨_, rfl⟩
        have hB : w.heap.size ≤ wo.heap.size := Hbj.out.size
        go_wp2_with (at_make; refine wpList_make_mk rfl _ _ 22 rfl .u8 5 w.heap.size 1 Try.underlying22 info5 .i64 .i64 _ _ ((sumTo ws j + 7) / 8) rfl rfl rfl rfl (by omega) (by omega) hB rfl ?_; intro w1 hm1 hb1; have Hm1 := Lib.hid hm1; clear hm1)
        have Hb1 := Lib.hid (Hbj.out.trans (hb1.mono hB))
        clear hb1 hB
        obtain ⟨bz, HZ⟩ : ∃ l, Hid (l = List.replicate ((sumTo ws j + 7) / 8) (0 : Int)) := ⟨_, rfl⟩
        rw [← HZ.out] at Hm1
        have hzl : bz.length = (sumTo ws j + 7) / 8 := by rw [HZ.out]; simp
        have Hzl := Lib.hid hzl
        clear hzl
        go_loopw [8, 9, 10] (fun o t k wr => ∃ (i : Nat) (ao : Option Addr) (co : Nat), i ≤ j ∧ k = .int .i64 i ∧ t = .int .i64 (sumTo ws i : Nat) ∧ o = .slice ao ((sumTo ws j + 7) / 8) co ∧ (ao = none → co = 0) ∧ Mk .u8 5 w.heap.size wr (.slice ao ((sumTo ws j + 7) / 8) co) ((sumTo ws j + 7) / 8) (packTo ws vs bz i) ∧ Below w.heap.size w wr) (fun _ _ k _ => j - (intOf k).toNat)
        case atStart => exact ⟨0, _, _, by omega, by simp, by simp [sumTo], rfl, (fun h => by cases h), Hm1.out, Hb1.out⟩
        case round =>
          obtain ⟨i, ao, co, hi, rfl, rfl, rfl, hco, hmi, hbi⟩ := hrel
          have Hmi := Lib.hid hmi
          have Hbi := Lib.hid hbi
          clear hmi hbi
          by_cases hlt : i < j
          · have Hs1 := Lib.hid (Hs.out.keep Hbi.out)
            have Ht1 := Lib.hid (Ht.out.keep Hbi.out)
            obtain ⟨ba, oa, rfl⟩ := Hs.out.head (by omega)
            obtain ⟨bb, ob, rfl⟩ := Ht.out.head (by omega)
            have hca := Hs1.out.at hlt
            have hcb := Ht1.out.at hlt
            have hx := fitsAt_yes (fitsTo_all Hfit.out i hlt)
            have hxw := widthAt_yes hx.1
            rw [hxw.2.2.1] at hca
            rw [hx.2.2.1] at hcb
            have hw2 := hxw.2.2.2
            have Hv := Lib.hid hx.2.2.2
            have hv3 := pow32 _ hw2
            have hv4 : wid vs i < 4294967296 := Nat.lt_of_lt_of_le hx.2.2.2 hv3
            clear hv3
            have hle := sumTo_mono ws (show i + 1 ≤ j by omega)
            have HS : Hid (sumTo ws (i + 1) = sumTo ws i + wid ws i) := rfl
            rw [HS.out] at hle
            have h0i : (0 : Int) ≤ (i : Int) := by omega
            have hij : (i : Int) < (j : Int) := by omega
            have HP : Hid (packTo ws vs bz (i + 1) = putTo (packTo ws vs bz i) (sumTo ws i) (wid ws i) (wid vs i) (wid ws i)) := rfl
            have hBq : w.heap.size ≤ wr.heap.size := Hbi.out.size
            clear hx hxw
            have hla : ba < w.heap.size := Hs.out.block hlt
            have hlb : bb < w.heap.size := Ht.out.block hlt
            have hlen2 := packTo_length ws vs bz i
            rw [Hzl.out] at hlen2
            have Hlen2 := Lib.hid hlen2
            clear hlen2
            go_wp2
            go_region_held3 (fun w' => w'.cell? ⟨ba, oa + i, none⟩ = some (.int .i64 (wid ws i : Nat)) ∧ w'.cell? ⟨bb, ob + i, none⟩ = some (.int .i64 (wid vs i : Nat)))
              (first | exact ⟨hca, hcb⟩ | exact ⟨(hb2.cell hla).trans hca, (hb2.cell hlb).trans hcb⟩)
              (first | (go_at_call 12; refine (refWrite_any w.heap.size _ _ _ _ _ _ (packTo ws vs bz i) _ (Hmi.out.drew).sl hco hBq (by omega) (by omega)).mono ?_; rintro e w2 ⟨a2, n2, co2, rfl, hn2, hm2, hb2⟩))
            go_wp2
            go_roundw
            case rel =>
              go_light
              have hl9 := Hlen2.out
              have e9 := writeV_ok (packTo ws vs bz i) (sumTo ws i) (wid ws i) (wid vs i) hw2 Hv.out (by omega)
              rw [e9, ← HP.out] at hm2
              have hn9 : n2 = (sumTo ws j + 7) / 8 := by rw [← hm2.len, packTo_length, Hzl.out]
              subst hn9
              exact ⟨i + 1, a2, co2, by omega, by go_num, int_eq (by rw [HS.out]; omega), rfl, hn2, hm2, Hbi.out.drew.trans hb2⟩
            case measure => simp [intOf]; omega
          · obtain rfl : i = j := by omega
            go_wp2
            go_ret2
            rw [← HZ.out]
            exact ⟨_, _, _, rfl, hco, Hmi.out, Hbi.out⟩
end Go.Proofs.Ytfffmdibjeefkaa
