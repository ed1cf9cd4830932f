/-
  What the document's own Unpack, and the comparison of numbers, return.
-/
import Derived.Test.YtfffmdibjeefkaaBitsUnpack
import Derived.Test.YtfffmdibjeefkaaBitsRef
import Derived.Deep.QuietTactic
import Derived.BigQuiet
namespace Go.Proofs.Ytfffmdibjeefkaa
open Go Go.RowKit

/-- ref's Read of what is there -/
theorem refReadI (zs : List Int) (w : World) (p q : Int) (n : Nat) (h0 : 0 ≤ p) (h3 : 0 ≤ q) (h1 : q ≤ 32) (h2 : p + q ≤ 8 * n) (a : Option Addr) (cap : Nat) (hs : Sl .u8 w a n zs) :
    Calls Try.prog 10 #[.slice a n cap, .int .i64 p, .int .i64 q] w fun e w' => e = .returned (.tuple #[.int .i64 (numAt zs p.toNat q.toNat : Nat), .int .i64 0]) ∧ w = w' := by
  have hr := hs.reach
  have hl := hs.len
  refine (refRead_any a n cap p q zs w hs (by omega)).mono ?_
  rintro e w' ⟨rfl, rfl⟩
  have e1 : readV zs p q = (numAt zs p.toNat q.toNat : Nat) := by unfold readV; rw [if_neg (by omega), if_neg (by omega)]
  have e2 : readE zs p q = 0 := by unfold readE; rw [if_neg (by omega), if_neg (by omega)]
  rw [e1, e2]; exact ⟨rfl, rfl⟩

theorem sameInts_any (a b : Option Addr) (n cap m cap' : Nat) (xs ys : List Int) (w : World) (hx : Sl .i64 w a n xs) (hy : Sl .i64 w b m ys) :
    Calls Try.prog 19 #[.slice a n cap, .slice b m cap'] w fun e w' => e = .returned (.bool (decide (xs = ys))) ∧ Below w.heap.size w w' := by
  have hl1 := hx.len
  have hl2 := hy.len
  have hr := hx.reach
  have hr2 := hy.reach
  by_cases hnm : n = m
  · subst hnm
    obtain ⟨r, HR⟩ : ∃ r, Hid (decide (xs = ys) = r) := ⟨_, rfl⟩
    rw [HR.out]
    have Hx := Lib.hid hx
    have Hy := Lib.hid hy
    have Hl := Lib.hid hl1
    have Hl2 := Lib.hid hl2
    clear hx hy hl1 hl2
    go_enter Try.func19, Try.ntmps19
    go_wp2
    go_loopw [5] (fun k wr => ∃ j : Nat, j ≤ n ∧ k = .int .i64 j ∧ (∀ i, i < j → xs.getD i 0 = ys.getD i 0) ∧ Below w.heap.size w wr) (fun k _ => n - (intOf k).toNat)
    case atStart => exact ⟨0, by omega, by simp, fun i h => by omega, Below.refl _ _⟩
    case round =>
      obtain ⟨j, hj, rfl, hall, hb⟩ := hrel
      have Hall := Lib.hid hall
      have Hb := Lib.hid hb
      clear hall hb
      by_cases hlt : j < n
      · have Hx1 := Lib.hid (Hx.out.keep Hb.out)
        have Hy1 := Lib.hid (Hy.out.keep Hb.out)
        obtain ⟨ba, oa, rfl⟩ := Hx.out.head (by omega)
        obtain ⟨bb, ob, rfl⟩ := Hy.out.head (by omega)
        have hca := Hx1.out.at hlt
        have hcb := Hy1.out.at hlt
        have h0j : (0 : Int) ≤ (j : Int) := by omega
        have hjn : (j : Int) < (n : Int) := by omega
        by_cases he : xs.getD j 0 = ys.getD j 0
        · rw [he] at hca
          have hne : (ys.getD j 0 != ys.getD j 0) = false := by simp
          have He := Lib.hid he
          clear he
          obtain ⟨y, HY⟩ : ∃ y, Hid (ys.getD j 0 = y) := ⟨_, rfl⟩
          rw [HY.out] at hca hcb hne
          go_wp2
          go_quiet (fail)
          go_wp2
          go_roundw
          case rel =>
            refine ⟨j + 1, by omega, by go_num, ?_, below_drewN Hb.out _⟩
            intro i hi
            by_cases e : i = j
            · subst e; exact He.out
            · exact Hall.out i (by omega)
          case measure => simp [intOf]; omega
        · have hd : decide (xs = ys) = false := decide_eq_false (fun h => he (by rw [h]))
          have hne : (xs.getD j 0 != ys.getD j 0) = true := by simpa using he
          obtain rfl : r = false := HR.out.symm.trans hd
          clear hd he
          generalize xs.getD j 0 = x at hca hne
          generalize ys.getD j 0 = y at hcb hne
          go_wp2
          go_quiet (fail)
          go_wp2
          go_ret
          exact ⟨rfl, below_drewN Hb.out _⟩
      · obtain rfl : j = n := by omega
        have hd : decide (xs = ys) = true := decide_eq_true (by
          apply List.ext_getElem (by rw [Hl.out, Hl2.out])
          intro i h1 h2
          have := Hall.out i (by rw [← Hl.out]; exact h1)
          rwa [List.getD_eq_getElem?_getD, List.getD_eq_getElem?_getD, List.getElem?_eq_getElem h1, List.getElem?_eq_getElem h2] at this)
        obtain rfl : r = true := HR.out.symm.trans hd
        clear hd
        go_wp2
        go_ret
        exact ⟨rfl, Hb.out⟩
  · have hd : decide (xs = ys) = false := decide_eq_false (fun h => hnm (by rw [← hl1, ← hl2, h]))
    have hne : ((n : Int) == (m : Int)) = false := by rw [beq_eq_false_iff_ne]; omega
    have hne2 : ((n : Int) != (m : Int)) = true := by rw [bne_iff_ne]; omega
    clear hx hy hl1 hl2
    rw [hd]
    clear hd
    go_enter Try.func19, Try.ntmps19
    go_wp2
    go_ret
    exact ⟨rfl, Below.refl _ _⟩

set_option maxHeartbeats 3200000 in
theorem refUnpack_any (a b : Option Addr) (m cap n cap' : Nat) (zs ws : List Int) (w : World) (hs : Sl .u8 w a m zs) (ht : Sl .i64 w b n ws) :
    Calls Try.prog 18 #[.slice a m cap, .slice b n cap'] w (RetInts w.heap.size (unpackV zs ws) (unpackE zs ws) w) := by
  have hl := hs.reach
  have hl2 := ht.reach
  have hz := hs.len
  have hz2 := ht.len
  have hnil : ∀ w' err, Below w.heap.size w w' → RetInts w.heap.size [] err w (.returned (.tuple #[.slice none 0 0, .int .i64 err])) w' := by
    intro w' err hb; exact ⟨none, 0, 0, rfl, fun _ => rfl, Mk.nil _ _ _ _, hb⟩
  have Hnil := Lib.hid hnil
  clear hnil
  by_cases hr : 256 < n
  · have he := unpackE_size (zs := zs) (ws := ws) (by omega)
    rw [unpack_bad he (by decide), he]
    clear he hz hz2
    go_enter Try.func18, Try.ntmps18
    go_wp2
    go_ret2
    exact Hnil.out _ _ (Below.refl _ _)
  · have hn : n ≤ 256 := by omega
    have H3 := Lib.hid (fun h => unpackE_width (zs := zs) hz2 hn h)
    have H5 := Lib.hid (fun h1 h2 => unpackE_end hz2 hz hn h1 h2)
    have H4 := Lib.hid (fun h1 h2 h3 => unpackE_form hz2 hz hn h1 h2 h3)
    have H0 := Lib.hid (fun h1 h2 h3 => unpackE_ok hz2 hz hn h1 h2 h3)
    have HV := Lib.hid (fun h => unpackV_ok (zs := zs) hz2 h)
    have HB := Lib.hid (fun e (h : unpackE zs ws = e) he => unpack_bad h he)
    have HE : Hid (∀ t : Nat, (m : Int) ≤ ((t : Int) + 7) / 8 → t ≤ 8 * m → endB zs t = ((numAt zs t (8 * m - t)) == 0)) := by
      intro t h1 h2
      unfold endB
      rw [hz, Bool.eq_iff_iff]; simp; omega
    have HE2 : Hid (∀ t : Nat, ((t : Int) + 7) / 8 < (m : Int) → endB zs t = false) := by
      intro t h1
      unfold endB
      rw [hz]; simp; omega
    have Hs := Lib.hid hs
    have Ht := Lib.hid ht
    clear hr hs ht hz hz2
    generalize unpackV zs ws = out at HV HB
    generalize unpackE zs ws = err at H3 H5 H4 H0 HV HB
    go_enter Try.func18, Try.ntmps18
    go_wp2
    go_loop [6, 7] (fun t k => ∃ j : Nat, j ≤ n ∧ k = .int .i64 j ∧ t = .int .i64 (sumTo ws j : Nat) ∧ widthTo ws j = true) (fun _ k => n - (intOf k).toNat)
    case atStart => exact ⟨0, by omega, by simp, by simp [sumTo], rfl⟩
    case round =>
      obtain ⟨j, hj, rfl, rfl, hfit⟩ := hrel
      have Hfit := Lib.hid hfit
      clear hfit
      by_cases hlt : j < n
      · obtain ⟨bb, ob, rfl⟩ := Ht.out.head (by omega)
        have hcb := Ht.out.at hlt
        have hiv := Ht.out.i64 j
        have hle := sumTo_le Hfit.out
        have HF : Hid (widthTo ws (j + 1) = (widthTo ws j && decide (0 ≤ ws.getD j 0 ∧ ws.getD j 0 ≤ 32))) := rfl
        have HF2 : Hid (decide (0 ≤ ws.getD j 0 ∧ ws.getD j 0 ≤ 32) = false → widthTo ws n = false) := fun h => widthTo_no hlt h
        have HS : Hid (sumTo ws (j + 1) = sumTo ws j + (ws.getD j 0).toNat) := rfl
        generalize ws.getD j 0 = x at hcb hiv HF HF2 HS
        generalize sumTo ws j = s at HS hle
        by_cases g0 : x < 0
        · have e1 := H3.out (HF2.out (decide_eq_false (by omega)))
          have e2 := HB.out 3 e1 (by decide)
          subst e1; subst e2
          go_wp2
          go_ret2
          exact Hnil.out _ _ (Below.refl _ _)
        · by_cases g1 : 32 < x
          · have e1 := H3.out (HF2.out (decide_eq_false (by omega)))
            have e2 := HB.out 3 e1 (by decide)
            subst e1; subst e2
            go_wp2
            go_ret2
            exact Hnil.out _ _ (Below.refl _ _)
          · have HG : Hid (decide (0 ≤ x ∧ x ≤ 32) = true) := decide_eq_true (by omega)
            go_wp2
            go_round
            case rel => exact ⟨j + 1, by omega, by go_num, int_eq (by rw [HS.out]; omega), by rw [HF.out, Hfit.out, HG.out]; rfl⟩
            case measure => simp [intOf]; omega
      · obtain rfl : j = n := by omega
        have hsl := sumTo_le Hfit.out
        by_cases h5 : 8 * m < sumTo ws j
        · have e1 := H5.out Hfit.out h5
          have e2 := HB.out 5 e1 (by decide)
          subst e1; subst e2
          go_wp2
          go_ret2
          exact Hnil.out _ _ (Below.refl _ _)
        · by_cases h4 : ((sumTo ws j : Int) + 7) / 8 < (m : Int)
          · have e1 := H4.out Hfit.out h5 (HE2.out _ h4)
            have e2 := HB.out 4 e1 (by decide)
            subst e1; subst e2
            go_wp2
            go_ret2
            exact Hnil.out _ _ (Below.refl _ _)
          · have he := HE.out _ (by omega) (show sumTo ws j ≤ 8 * m by omega)
            have E1 : Hid ((8 * (m : Int) - (sumTo ws j : Int)).toNat = 8 * m - sumTo ws j) := by show _ = _; omega
            by_cases hrest : numAt zs (sumTo ws j) (8 * m - sumTo ws j) = 0
            · have h4t : endB zs (sumTo ws j) = true := by rw [he, hrest]; rfl
              have e1 := H0.out Hfit.out h5 h4t
              have e2 := HV.out e1
              subst e1; subst e2
              have h5c : sumTo ws j ≤ 8 * m := by omega
              have Hrest := Lib.hid hrest
              clear H3 H5 H4 H0 HV HB h5 he hrest HE HE2 h4t
              go_wp2_with fail
              refine (refReadI zs _ _ _ m (by omega) (by omega) (by omega) (by omega) _ _ Hs.out).mono ?_
              rintro e w1 ⟨rfl, rfl⟩
              rw [Int.toNat_natCast, E1.out, Hrest.out]
              go_wp2
              go_loopw [10, 11, 12] (fun o t k wr => ∃ (i : Nat) (ao : Option Addr) (co : Nat), i ≤ j ∧ k = .int .i64 i ∧ t = .int .i64 (sumTo ws i : Nat) ∧ o = .slice ao i co ∧ (ao = none → co = 0) ∧ Mk .i64 3 w.heap.size wr (.slice ao i co) i (unpackTo ws zs i) ∧ Below w.heap.size w wr) (fun _ _ k _ => j - (intOf k).toNat)
              case atStart => exact ⟨0, none, 0, by omega, by simp, by simp [sumTo], rfl, (fun _ => rfl), Mk.nil _ _ _ _, Below.refl _ _⟩
              case round =>
                obtain ⟨i, ao, co, hi, rfl, rfl, rfl, hco, hmi, hbi⟩ := hrel
                have Hbi := Lib.hid hbi
                have Hmi := Lib.hid hmi
                clear hbi hmi
                by_cases hlt : i < j
                · have Hs1 := Lib.hid (Hs.out.keep Hbi.out)
                  have Ht1 := Lib.hid (Ht.out.keep Hbi.out)
                  obtain ⟨bb, ob, rfl⟩ := Ht.out.head (by omega)
                  have hcb := Ht1.out.at hlt
                  have hbl := Ht1.out.block hlt
                  have hxw := widthAt_yes (widthTo_all Hfit.out i hlt)
                  rw [hxw.2.2.1] at hcb
                  have hw2 := hxw.2.2.2
                  have hle := sumTo_mono ws (show i + 1 ≤ j by omega)
                  have HS : Hid (sumTo ws (i + 1) = sumTo ws i + wid ws i) := rfl
                  rw [HS.out] at hle
                  have h9 := numAt_le32 zs (sumTo ws i) (wid ws i) hw2
                  have HU : Hid (unpackTo ws zs (i + 1) = unpackTo ws zs i ++ [((numAt zs (sumTo ws i) (wid ws i) : Nat) : Int)]) := rfl
                  have hBs : w.heap.size ≤ wr.heap.size := Hbi.out.size
                  have hbl2 : bb < w.heap.size := Ht.out.block hlt
                  clear hxw
                  go_wp2_with fail
                  refine (refReadI zs _ _ _ m (by omega) (by omega) (by omega) (by omega) _ _ Hs1.out).mono ?_
                  rintro e w1 ⟨rfl, rfl⟩
                  rw [Int.toNat_natCast, Int.toNat_natCast]
                  generalize numAt zs (sumTo ws i) (wid ws i) = v at h9 HU
                  go_wp2_with (at_builtin; refine wpList_append_mk rfl _ _ 35 rfl .i64 3 w.heap.size 8 Try.underlying35 info3 (.slice ao i co) i (unpackTo ws zs i) rfl (Hmi.out.alloc _) (some ⟨wr.heap.size, 0, none⟩) 1 1 [(v : Int)] rfl (Sl.one .i64 wr v 3 (nat_wf v (by omega))) (fun h => by cases h) (by omega) (by omega) (by simp; omega) ?_; intro ao2 co2 w2 hm2 hb2 hn2; have Hm2 := Lib.hid hm2; have Hb2 := Lib.hid hb2; clear hm2 hb2; have hc2 := ((((Below.refl w.heap.size wr).alloc hBs (.cells #[.int .i64 v] 3)).trans Hb2.out).cell (p := ⟨bb, ob + i, none⟩) hbl2).trans hcb)
                  go_roundw
                  case rel =>
                    exact ⟨i + 1, ao2, co2, by omega, by go_num, int_eq (by rw [HS.out]; omega), rfl, fun h => (hn2 h).2, by rw [HU.out]; exact Hm2.out, Hbi.out.trans (((Below.refl w.heap.size wr).alloc hBs (.cells #[.int .i64 v] 3)).trans Hb2.out)⟩
                  case measure => simp [intOf]; omega
                · obtain rfl : i = j := by omega
                  go_wp2
                  go_ret2
                  exact ⟨_, _, _, rfl, hco, Hmi.out, Hbi.out⟩
            · have h4f : endB zs (sumTo ws j) = false := by rw [he]; simpa using hrest
              have e1 := H4.out Hfit.out h5 h4f
              have e2 := HB.out 4 e1 (by decide)
              subst e1; subst e2
              have h5c : sumTo ws j ≤ 8 * m := by omega
              have hne : (((numAt zs (sumTo ws j) (8 * m - sumTo ws j) : Nat) : Int) != 0) = true := by rw [bne_iff_ne]; omega
              clear H3 H5 H4 H0 HV HB h5 he hrest HE HE2 h4f
              go_wp2_with fail
              refine (refReadI zs _ _ _ m (by omega) (by omega) (by omega) (by omega) _ _ Hs.out).mono ?_
              rintro e w1 ⟨rfl, rfl⟩
              rw [Int.toNat_natCast, E1.out]
              generalize numAt zs (sumTo ws j) (8 * m - sumTo ws j) = rest at hne
              go_wp2
              go_ret2
              exact Hnil.out _ _ (Below.refl _ _)
end Go.Proofs.Ytfffmdibjeefkaa
