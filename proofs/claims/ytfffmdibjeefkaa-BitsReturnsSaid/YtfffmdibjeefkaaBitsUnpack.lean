/-
  What Unpack and what it calls return.
-/
import Derived.Test.YtfffmdibjeefkaaBitsPack
namespace Go.Proofs.Ytfffmdibjeefkaa
open Go Go.RowKit

/-- the first i numbers that stand one after the other -/
def unpackTo (ws zs : List Int) : Nat → List Int
  | 0 => []
  | i + 1 => unpackTo ws zs i ++ [((numAt zs (sumTo ws i) (wid ws i) : Nat) : Int)]
theorem unpackTo_length (ws zs : List Int) : ∀ n, (unpackTo ws zs n).length = n
  | 0 => rfl
  | n + 1 => by simp only [unpackTo, List.length_append, unpackTo_length ws zs n]; rfl
theorem unpackTo_get (ws zs : List Int) : ∀ {n i : Nat}, i < n → (unpackTo ws zs n).getD i 0 = (numAt zs (sumTo ws i) (wid ws i) : Nat)
  | n + 1, i, h => by
    simp only [unpackTo]
    by_cases e : i = n
    · subst e
      rw [List.getD_eq_getElem?_getD, List.getElem?_append_right (by rw [unpackTo_length]; omega), unpackTo_length]; simp
    · have := unpackTo_get ws zs (show i < n by omega)
      rw [List.getD_eq_getElem?_getD, List.getElem?_append_left (by rw [unpackTo_length]; omega), ← List.getD_eq_getElem?_getD]
      exact this

/-- nothing but bits 0 stands behind t bits, and no whole byte -/
def endB (zs : List Int) (t : Nat) : Bool := decide (zs.length = (t + 7) / 8 ∧ numAt zs t (8 * zs.length - t) = 0)
def unpackE (zs ws : List Int) : Int :=
  if 256 < ws.length then 2 else if widthTo ws ws.length = true then (if 8 * zs.length < sumTo ws ws.length then 5 else if endB zs (sumTo ws ws.length) = true then 0 else 4) else 3
def unpackV (zs ws : List Int) : List Int := if unpackE zs ws = 0 then unpackTo ws zs ws.length else []

theorem unpack_bad {zs ws : List Int} {e : Int} (h : unpackE zs ws = e) (he : e ≠ 0) : unpackV zs ws = [] := by unfold unpackV; rw [h, if_neg he]
theorem unpackE_size {zs ws : List Int} (h : 256 < ws.length) : unpackE zs ws = 2 := by unfold unpackE; exact if_pos h
theorem unpackE_width {zs ws : List Int} {n : Nat} (h0 : ws.length = n) (h : n ≤ 256) (h1 : widthTo ws n = false) : unpackE zs ws = 3 := by
  subst h0; unfold unpackE; exact (if_neg (by omega)).trans (if_neg (by simp [h1]))
theorem unpackE_end {zs ws : List Int} {n m : Nat} (h0 : ws.length = n) (hm : zs.length = m) (h : n ≤ 256) (h1 : widthTo ws n = true) (h2 : 8 * m < sumTo ws n) : unpackE zs ws = 5 := by
  subst h0; subst hm; unfold unpackE; exact (if_neg (by omega)).trans ((if_pos h1).trans (if_pos h2))
theorem unpackE_form {zs ws : List Int} {n m : Nat} (h0 : ws.length = n) (hm : zs.length = m) (h : n ≤ 256) (h1 : widthTo ws n = true) (h2 : ¬ 8 * m < sumTo ws n) (h3 : endB zs (sumTo ws n) = false) : unpackE zs ws = 4 := by
  subst h0; subst hm; unfold unpackE; exact (if_neg (by omega)).trans ((if_pos h1).trans ((if_neg h2).trans (if_neg (by simp [h3]))))
theorem unpackE_ok {zs ws : List Int} {n m : Nat} (h0 : ws.length = n) (hm : zs.length = m) (h : n ≤ 256) (h1 : widthTo ws n = true) (h2 : ¬ 8 * m < sumTo ws n) (h3 : endB zs (sumTo ws n) = true) : unpackE zs ws = 0 := by
  subst h0; subst hm; unfold unpackE; exact (if_neg (by omega)).trans ((if_pos h1).trans ((if_neg h2).trans (if_pos h3)))
theorem unpackV_ok {zs ws : List Int} {n : Nat} (h0 : ws.length = n) (h : unpackE zs ws = 0) : unpackV zs ws = unpackTo ws zs n := by
  subst h0; unfold unpackV; exact if_pos h

/-- the answer of a function that returns numbers and an error -/
def RetInts (B : Nat) (zs : List Int) (err : Int) (w : World) (e : Ending) (w' : World) : Prop :=
  ∃ a n cap, e = .returned (.tuple #[.slice a n cap, .int .i64 err]) ∧ (a = none → cap = 0) ∧ Mk .i64 3 B w' (.slice a n cap) n zs ∧ Below B w w'

theorem number_int (a : Option Addr) (len cap : Nat) (p n : Int) (zs : List Int) (w : World) (hs : Sl .u8 w a len zs) (h0 : 0 ≤ p) (h1 : 0 ≤ n) (hb : p + n ≤ 8 * len) (hn : n ≤ 32) :
    Calls Try.prog 25 #[.slice a len cap, .int .i64 p, .int .i64 n] w fun e w' => e = .returned (.int .i64 (numAt zs p.toNat n.toNat : Nat)) ∧ w = w' := by
  obtain ⟨P, rfl⟩ := Int.eq_ofNat_of_zero_le h0
  obtain ⟨N, rfl⟩ := Int.eq_ofNat_of_zero_le h1
  exact number_any a len cap P N zs w hs (by omega) (by omega)

set_option maxHeartbeats 400000 in
theorem endsAt_any (a : Option Addr) (len cap t : Nat) (zs : List Int) (w : World) (hs : Sl .u8 w a len zs) (ht : t ≤ 8192) (hb : t ≤ 8 * len) :
    Calls Try.prog 31 #[.slice a len cap, .int .i64 t] w fun e w' => e = .returned (.bool (endB zs t)) ∧ w = w' := by
  have hl := hs.reach
  have hz := hs.len
  by_cases hc : len = (t + 7) / 8
  · have HE : Hid (endB zs t = (((numAt zs t (8 * len - t) : Nat) : Int) == 0)) := by
      show endB zs t = _
      unfold endB
      rw [hz, Bool.eq_iff_iff]; simp; omega
    have Hs := Lib.hid hs
    have Hc := Lib.hid hc
    have hc2 : ((len : Int) == ((t : Int) + 7) / 8) = true := by rw [beq_iff_eq]; omega
    have hc3 : ((len : Int) == (((t + 7) / 8 : Nat) : Int)) = true := by rw [beq_iff_eq]; omega
    clear hs hz hc
    go_enter Try.func31, Try.ntmps31
    go_wp2_with (first | (go_at_call 29; refine (wholeBytes_any _ _ (by omega)).mono ?_; rintro e w' ⟨rfl, rfl⟩) | (go_at_call 25; refine (number_int _ _ _ _ _ zs _ Hs.out (by omega) (by omega) (by omega) (by have := Hc.out; omega)).mono ?_; rintro e w' ⟨rfl, rfl⟩))
    go_ret
    exact ⟨ret_bool HE.out.symm, rfl⟩
  · have HE : Hid (endB zs t = false) := by
      show endB zs t = _
      unfold endB
      rw [hz]; simp [hc]
    have hc2 : ((len : Int) == ((t : Int) + 7) / 8) = false := by rw [beq_eq_false_iff_ne]; omega
    have hc3 : ((len : Int) == (((t + 7) / 8 : Nat) : Int)) = false := by rw [beq_eq_false_iff_ne]; omega
    clear hs hz hc
    go_enter Try.func31, Try.ntmps31
    go_wp2_with (first | (go_at_call 29; refine (wholeBytes_any _ _ (by omega)).mono ?_; rintro e w' ⟨rfl, rfl⟩))
    go_ret
    exact ⟨ret_bool (by rw [HE.out]), rfl⟩

theorem info3 : (Try.prog.info? 3).map (fun i => (i.zero, i.size, i.bytes)) = some (some (.int .i64 0), 1, 8) := by kernel_rfl
theorem nat_wf (n : Nat) (h : n ≤ 9223372036854775807) : (Lit.int .i64 (n : Int)).wf = true := by
  simp [Lit.wf, IntKind.min, IntKind.max, IntKind.signed, IntKind.bits]; omega

/-- the first i numbers, and zeros -/
def midTo (ws zs : List Int) (n i : Nat) : List Int := unpackTo ws zs i ++ List.replicate (n - i) 0
theorem midTo_succ (ws zs : List Int) {n i : Nat} (h : i < n) : (midTo ws zs n i).set i ((numAt zs (sumTo ws i) (wid ws i) : Nat) : Int) = midTo ws zs n (i + 1) := by
  unfold midTo
  rw [List.set_append_right _ _ (by rw [unpackTo_length]; omega), unpackTo_length, Nat.sub_self, show n - i = (n - (i + 1)) + 1 from by omega, List.replicate_succ, List.set_cons_zero]
  simp [unpackTo]

set_option maxHeartbeats 1600000 in
theorem Unpack_any (a b : Option Addr) (m cap n cap' : Nat) (zs ws : List Int) (w : World) (hs : Sl .u8 w a m zs) (ht : Sl .i64 w b n ws) :
    Calls Try.prog 17 #[.slice a m cap, .slice b n cap'] w (RetInts w.heap.size (unpackV zs ws) (unpackE zs ws) w) := by
  have hl := hs.reach
  have hl2 := ht.reach
  have hz := hs.len
  have hz2 := ht.len
  have hnil : ∀ w' err, w = w' → RetInts w.heap.size [] err w (.returned (.tuple #[.slice none 0 0, .int .i64 err])) w' := by
    rintro w' err rfl; exact ⟨none, 0, 0, rfl, fun _ => rfl, Mk.nil _ _ _ _, Below.refl _ _⟩
  have Hnil := Lib.hid hnil
  clear hnil
  by_cases hr : 256 < n
  · have he := unpackE_size (zs := zs) (ws := ws) (by omega)
    rw [unpack_bad he (by decide), he]
    clear he hz hz2
    go_enter Try.func17, Try.ntmps17
    go_wp2
    go_ret2
    exact Hnil.out _ _ rfl
  · have hn : n ≤ 256 := by omega
    have H3 := Lib.hid (fun h => unpackE_width (zs := zs) hz2 hn h)
    have H5 := Lib.hid (fun h1 h2 => unpackE_end hz2 hz hn h1 h2)
    have H4 := Lib.hid (fun h1 h2 h3 => unpackE_form hz2 hz hn h1 h2 h3)
    have H0 := Lib.hid (fun h1 h2 h3 => unpackE_ok hz2 hz hn h1 h2 h3)
    have HV := Lib.hid (fun h => unpackV_ok (zs := zs) hz2 h)
    have HB := Lib.hid (fun e (h : unpackE zs ws = e) he => unpack_bad h he)
    have Hs := Lib.hid hs
    have Ht := Lib.hid ht
    clear hr hs ht hz hz2
    generalize unpackV zs ws = out at HV HB
    generalize unpackE zs ws = err at H3 H5 H4 H0 HV HB
    go_enter Try.func17, Try.ntmps17
    go_wp2
    go_loop [18] (fun k => ∃ j : Nat, j ≤ n ∧ k = .int .i64 j ∧ widthTo ws j = true) (fun k => n - (intOf k).toNat)
    case atStart => exact ⟨0, by omega, by simp, rfl⟩
    case round =>
      obtain ⟨j, hj, rfl, hfit⟩ := hrel
      have Hfit := Lib.hid hfit
      clear hfit
      by_cases hlt : j < n
      · obtain ⟨bb, ob, rfl⟩ := Ht.out.head (by omega)
        have hcb := Ht.out.at hlt
        have hiv := Ht.out.i64 j
        have HF : Hid (widthTo ws (j + 1) = (widthTo ws j && decide (0 ≤ ws.getD j 0 ∧ ws.getD j 0 ≤ 32))) := rfl
        have HF2 : Hid (decide (0 ≤ ws.getD j 0 ∧ ws.getD j 0 ≤ 32) = false → widthTo ws n = false) := fun h => widthTo_no hlt h
        generalize ws.getD j 0 = x at hcb hiv HF HF2
        by_cases hx : 0 ≤ x ∧ x ≤ 32
        · have hd : decide (0 ≤ x ∧ x ≤ 32) = true := decide_eq_true hx
          go_wp2_with (go_at_call 23; refine (isWidth_any _ _).mono ?_; rintro e w' ⟨rfl, rfl⟩)
          go_round
          case rel => exact ⟨j + 1, by omega, by go_num, by rw [HF.out, Hfit.out, hd]; rfl⟩
          case measure => simp [intOf]; omega
        · have hd : decide (0 ≤ x ∧ x ≤ 32) = false := decide_eq_false hx
          have e1 := H3.out (HF2.out hd)
          have e2 := HB.out 3 e1 (by decide)
          subst e1; subst e2
          clear hx
          go_wp2_with (go_at_call 23; refine (isWidth_any _ _).mono ?_; rintro e w' ⟨rfl, rfl⟩)
          go_ret2
          exact Hnil.out _ _ rfl
      · obtain rfl : j = n := by omega
        have hsl := sumTo_le Hfit.out
        by_cases h5 : 8 * m < sumTo ws j
        · have e1 := H5.out Hfit.out h5
          have e2 := HB.out 5 e1 (by decide)
          subst e1; subst e2
          have hd : decide ((sumTo ws j : Int) ≤ 8 * (m : Int) - 0) = false := by simp; omega
          have hd2 : decide ((sumTo ws j : Int) ≤ 8 * (m : Int)) = false := by simp; omega
          go_wp2_with (first | (go_at_call 30; refine (sum_any _ _ _ ws _ Ht.out hn Hfit.out).mono ?_; rintro e w' ⟨rfl, rfl⟩) | (go_at_call 24; refine (hasBits_any _ _ _ _ _ _ (by omega) (by omega) (by omega)).mono ?_; rintro e w' ⟨rfl, rfl⟩))
          go_ret2
          exact Hnil.out _ _ rfl
        · have hd : decide ((sumTo ws j : Int) ≤ 8 * (m : Int) - 0) = true := by simp; omega
          have hd2 : decide ((sumTo ws j : Int) ≤ 8 * (m : Int)) = true := by simp; omega
          cases h4 : endB zs (sumTo ws j) with
          | false =>
            have e1 := H4.out Hfit.out h5 h4
            have e2 := HB.out 4 e1 (by decide)
            subst e1; subst e2
            go_wp2_with (first | (go_at_call 30; refine (sum_any _ _ _ ws _ Ht.out hn Hfit.out).mono ?_; rintro e w' ⟨rfl, rfl⟩) | (go_at_call 24; refine (hasBits_any _ _ _ _ _ _ (by omega) (by omega) (by omega)).mono ?_; rintro e w' ⟨rfl, rfl⟩) | (go_at_call 31; refine (endsAt_any _ _ _ _ zs _ Hs.out (by omega) (by omega)).mono ?_; rintro e w' ⟨rfl, rfl⟩))
            go_ret2
            exact Hnil.out _ _ rfl
          | true =>
            have e1 := H0.out Hfit.out h5 h4
            have e2 := HV.out e1
            subst e1; subst e2
            have h5c : sumTo ws j ≤ 8 * m := by omega
            clear H3 H5 H4 H0 HV HB h5
            go_wp2_with (first | (go_at_call 30; refine (sum_any _ _ _ ws _ Ht.out hn Hfit.out).mono ?_; rintro e w' ⟨rfl, rfl⟩) | (go_at_call 24; refine (hasBits_any _ _ _ _ _ _ (by omega) (by omega) (by omega)).mono ?_; rintro e w' ⟨rfl, rfl⟩) | (go_at_call 31; refine (endsAt_any _ _ _ _ zs _ Hs.out (by omega) (by omega)).mono ?_; rintro e w' ⟨rfl, rfl⟩) | (at_make; refine wpList_make_mk rfl _ _ 35 rfl .i64 3 w.heap.size 8 Try.underlying35 info3 .i64 .i64 _ _ j rfl rfl rfl rfl (by omega) (by omega) (Nat.le_refl _) (nat_wf 0 (by omega)) ?_; intro w1 hm1 hb1; have Hm1 := Lib.hid hm1; have Hb1 := Lib.hid hb1; clear hm1 hb1))
            go_loopw [10, 41] (fun t k wr => ∃ i : Nat, i ≤ j ∧ k = .int .i64 i ∧ t = .int .i64 (sumTo ws i : Nat) ∧ Mk .i64 3 w.heap.size wr (.slice (some ⟨w.heap.size, 0, none⟩) j j) j (midTo ws zs j i) ∧ Below w.heap.size w wr) (fun _ k _ => j - (intOf k).toNat)
            case atStart => exact ⟨0, by omega, by simp, by simp [sumTo], Hm1.out, Hb1.out⟩
            case round =>
              obtain ⟨i, hi, rfl, rfl, hmi, hbi⟩ := hrel
              have Hbi := Lib.hid hbi
              clear hbi
              by_cases hlt : i < j
              · have Hs1 := Lib.hid (Hs.out.keep Hbi.out)
                have Ht1 := Lib.hid (Ht.out.keep Hbi.out)
                obtain ⟨bb, ob, rfl⟩ := Ht.out.head (by omega)
                have hcb := Ht1.out.at hlt
                have hxw := widthAt_yes (widthTo_all Hfit.out i hlt)
                rw [hxw.2.2.1] at hcb
                have hw2 := hxw.2.2.2
                have hle := sumTo_mono ws (show i + 1 ≤ j by omega)
                have HS : Hid (sumTo ws (i + 1) = sumTo ws i + wid ws i) := rfl
                rw [HS.out] at hle
                have hle2 : sumTo ws i + wid ws i ≤ 8 * m := by omega
                have hf := hmi.free i
                have hcell := hmi.at hlt
                have hblk := hmi.block
                have Hmi := Lib.hid hmi
                clear hxw hmi
                go_wp2_with (first | (go_at_call 25; refine (number_int _ _ _ _ _ zs _ Hs1.out (by omega) (by omega) (by omega) (by omega)).mono ?_; rintro e w' ⟨rfl, rfl⟩))
                go_roundw
                case rel =>
                  go_light
                  refine ⟨i + 1, by omega, by go_num, int_eq (by rw [HS.out]; omega), ?_, Hbi.out.setCell (Nat.le_refl _) _⟩
                  rw [← midTo_succ ws zs hlt]
                  have h9 := numAt_le32 zs (sumTo ws i) (wid ws i) hw2
                  simpa using Hmi.out.stored i _ (nat_wf (numAt zs (sumTo ws i) (wid ws i)) (by omega))
                case measure => simp [intOf]; omega
              · obtain rfl : i = j := by omega
                have e9 : midTo ws zs i i = unpackTo ws zs i := by simp [midTo]
                rw [e9] at hmi
                have Hmi := Lib.hid hmi
                clear hmi
                go_wp2
                go_ret2
                exact ⟨_, _, _, rfl, (fun h => by cases h), Hmi.out, Hbi.out⟩
end Go.Proofs.Ytfffmdibjeefkaa
