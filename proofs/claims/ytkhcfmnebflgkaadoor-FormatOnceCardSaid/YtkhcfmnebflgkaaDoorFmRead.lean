/-
  The program's readFields of layer 8: numbers of bytes into a draft.
-/
import Derived.Test.YtkhcfmnebflgkaaDoorJLow
import Derived.Test.YtkhcfmnebflgkaaDoorJBase
namespace Go.Proofs.YtkhcfmnebflgkaaDoor
open Go Go.RowKit

/-- the cells of a draft when the first j fields are read from the bit p on -/
def rdTo (zs : List Int) (fs : List (Int × Nat)) (ws : List Int) (p : Nat) (cs : Array Value) : Nat → Array Value
  | 0 => cs
  | j + 1 => (rdTo zs fs ws p cs j).setIfInBounds (fs.getD j (0, 0)).2 (.int .i64 (numAt zs (p + sumTo ws j) (wid ws j) : Nat))
theorem rdTo_size (zs : List Int) (fs : List (Int × Nat)) (ws : List Int) (p : Nat) (cs : Array Value) : ∀ j, (rdTo zs fs ws p cs j).size = cs.size
  | 0 => rfl
  | j + 1 => by simp only [rdTo, Array.size_setIfInBounds]; exact rdTo_size zs fs ws p cs j

/-- what readFields leaves -/
def RdR (D nb : Nat) (zs : List Int) (fs : List (Int × Nat)) (ws : List Int) (p n : Nat) (cs : Array Value) (w : World) (e : Ending) (w' : World) : Prop :=
  w.grownBy w' (some D) ∧ if p + sumTo ws n ≤ 8 * nb then e = .returned (.tuple #[.int .i64 (p + sumTo ws n : Nat), .int .i64 0]) ∧ Blk 59 w' D (rdTo zs fs ws p cs n) else e = .returned (.tuple #[.int .i64 0, .int .i64 5])

set_option maxRecDepth 100000 in
set_option maxHeartbeats 6400000 in
theorem readFields_any (D gf B : Nat) (pb : Option Addr) (nb capb p n cf : Nat) (zs : List Int) (fs : List (Int × Nat)) (ws : List Int) (cs : Array Value) (w : World) (sl : Sl .u8 w pb nb zs) (hb : ∀ x, pb = some x → 0 < nb → x.block ≠ D)
    (hfr : FR D B w (.slice (some ⟨gf, 0, none⟩) n cf) n fs) (hg : gf ≠ D) (hd : Blk 59 w D cs) (hn : n ≤ 100) (hp : p ≤ 4096) (hp8 : p ≤ 8 * nb) (hws : ws = fs.map (·.1)) (hw : widthTo ws n = true) (hof : ∀ i, i < n → (fs.getD i (0, 0)).2 < cs.size) :
    Calls Tryd.prog 66 #[.slice pb nb capb, .int .i64 (p : Nat), .slice (some ⟨gf, 0, none⟩) n cf] w (RdR D nb zs fs ws p n cs w) := by
  have hwl : ws.length = n := by rw [hws, List.length_map, hfr.len]
  have hw0 : ∀ i, i < n → ws.getD i 0 = (fs.getD i (0, 0)).1 := fun i hi => by
    rw [hws, List.getD_eq_getElem?_getD, List.getElem?_map, List.getD_eq_getElem?_getD, List.getElem?_eq_getElem (by rw [hfr.len]; exact hi)]; rfl
  have hsum : ∀ j, j ≤ n → sumTo ws j ≤ 3200 := fun j hj => by
    have a := sumTo_mono ws hj
    have b := sumTo_le hw
    omega
  have HSL := Lib.hid sl
  have HB := Lib.hid hb
  have HFR := Lib.hid hfr
  have HD := Lib.hid hd
  have HW := Lib.hid hw
  have HW0 := Lib.hid hw0
  have HOF := Lib.hid hof
  have HSUM := Lib.hid hsum
  have hr := sl.reach
  have hDl : D < w.heap.size := hd.lt
  have hgl : gf < w.heap.size := (hfr.ge gf rfl).2
  clear sl hb hfr hd hws hw hwl hw0 hof hsum
  go_enter Tryd.func66, Tryd.ntmps66
  go_wp2_with fail
  go_loopw [1, 14] (fun s1 s14 wr => ∃ j : Nat, j ≤ n ∧ s14 = .int .i64 j ∧ s1 = .int .i64 (p + sumTo ws j : Nat) ∧ p + sumTo ws j ≤ 8 * nb ∧ Blk 59 wr D (rdTo zs fs ws p cs j) ∧ w.grownBy wr (some D)) (fun _ s14 _ => n - (intOf s14).toNat)
  case atStart => exact ⟨0, by omega, by simp, by simp [sumTo], by simpa [sumTo] using hp8, HD.out, World.grownBy.refl _ _⟩
  case round =>
    obtain ⟨j, hj, rfl, rfl, hbd, hdj, hgr⟩ := hrel
    have HDJ := Lib.hid hdj
    have HGR := Lib.hid hgr
    have hwz := hgr.size
    clear hdj hgr
    by_cases hlt : j < n
    · have FJ := HFR.out.keepRow HGR.out (.inr (fun e => hg (Option.some.inj e)))
      have hq := FJ.at hlt
      rw [← HW0.out j hlt, Nat.mul_comm 2 j] at hq
      obtain ⟨f0, f1⟩ := hq
      have SJ := HSL.out.keepRow HGR.out (fun x e h0 e2 => HB.out x e h0 (Option.some.inj e2))
      have hxw := widthAt_yes (widthTo_all HW.out j hlt)
      have hs1 := HSUM.out (j + 1) (by omega)
      have hsE : Hid (sumTo ws (j + 1) = sumTo ws j + wid ws j) := Lib.hid rfl
      have hrE : Hid (rdTo zs fs ws p cs (j + 1) = (rdTo zs fs ws p cs j).setIfInBounds (fs.getD j (0, 0)).2 (.int .i64 (numAt zs (p + sumTo ws j) (wid ws j) : Nat))) := Lib.hid rfl
      have hzl := HSL.out.len
      have hov := HOF.out j hlt
      have hsn := sumTo_mono ws (show j + 1 ≤ n by omega)
      have HSN := Lib.hid hsn
      clear hsn
      rw [hsE.out] at hs1
      have hX := hxw.2.2.2
      rw [hxw.2.2.1] at f0
      have hrs := rdTo_size zs fs ws p cs j
      obtain ⟨u, hu⟩ : ∃ u, (rdTo zs fs ws p cs j)[(fs.getD j (0, 0)).2]? = some u := ⟨_, Array.getElem?_eq_getElem (by rw [hrs]; exact hov)⟩
      have cD := (cells_of HDJ.out (fs.getD j (0, 0)).2).trans hu
      have zD := frozen_of HDJ.out (fs.getD j (0, 0)).2
      have RV := Lib.hid (fun W h => Read_any pb nb capb ((p + sumTo ws j : Nat) : Int) (wid ws j : Nat) zs W h (by omega))
      have SJ := Lib.hid SJ
      have hv32 := numAt_le32 zs (p + sumTo ws j) (wid ws j) hX
      have HRV : Hid (p + sumTo ws j + wid ws j ≤ 8 * nb → readV zs ((p + sumTo ws j : Nat) : Int) (wid ws j : Nat) = (numAt zs (p + sumTo ws j) (wid ws j) : Nat) ∧ readE zs ((p + sumTo ws j : Nat) : Int) (wid ws j : Nat) = 0) := Lib.hid (fun h => by
        unfold readV readE
        rw [if_neg (by omega), if_neg (by omega), if_neg (by omega), if_neg (by omega), Int.toNat_natCast, Int.toNat_natCast]
        exact ⟨rfl, rfl⟩)
      have HRE : Hid (¬ p + sumTo ws j + wid ws j ≤ 8 * nb → readV zs ((p + sumTo ws j : Nat) : Int) (wid ws j : Nat) = 0 ∧ readE zs ((p + sumTo ws j : Nat) : Int) (wid ws j : Nat) = 5) := Lib.hid (fun h => by
        unfold readV readE
        rw [if_neg (by omega), if_pos (by omega), if_neg (by omega), if_pos (by omega)]
        exact ⟨rfl, rfl⟩)
      generalize readV zs ((p + sumTo ws j : Nat) : Int) (wid ws j : Nat) = rv at RV HRV HRE
      generalize readE zs ((p + sumTo ws j : Nat) : Int) (wid ws j : Nat) = re at RV HRV HRE
      generalize numAt zs (p + sumTo ws j) (wid ws j) = v at hv32 HRV hrE
      generalize (fs.getD j (0, 0)).2 = q at f1 hrE cD zD hov hu
      generalize hsj : sumTo ws j = s at hs1 hsE hbd RV HRV HRE
      generalize hwj : wid ws j = X at f0 hs1 hX hsE RV HRV HRE
      have K6 := heap_alloc_new wr (.cells #[.int .i64 (X : Nat), .pointer (some ⟨D, q, none⟩)] 65)
      have SF := Lib.hid (SJ.out.alloc (.cells #[.int .i64 (X : Nat), .pointer (some ⟨D, q, none⟩)] 65))
      have hne : ¬ D = wr.heap.size := by omega
      have hne2 : ¬ wr.heap.size = D := by omega
      have hDr : D < wr.heap.size := by omega
      have cD2 := (World.cell?_of_block (heap_alloc_old wr (.cells #[.int .i64 (X : Nat), .pointer (some ⟨D, q, none⟩)] 65) hDr)).trans cD
      have DF := Lib.hid ((show Blk 59 wr D _ from HDJ.out).keep ((Below.refl wr.heap.size wr).alloc (Nat.le_refl _) (.cells #[.int .i64 (X : Nat), .pointer (some ⟨D, q, none⟩)] 65)))
      have zD2 := frozen_of DF.out q
      have GF := Lib.hid (grown_then HGR.out (World.grownBy_alloc wr (.cells #[.int .i64 (X : Nat), .pointer (some ⟨D, q, none⟩)] 65) none) (fun k e => by cases e))
      clear hsj hwj hu hrs hxw
      by_cases hfit : p + s + X ≤ 8 * nb
      · obtain ⟨e1, e2⟩ := HRV.out hfit
        rw [e1, e2] at RV
        clear e1 e2
        go_wp2_with (first | (go_at_call 74; refine (RV.out _ SF.out).mono ?_; rintro e w' ⟨rfl, rfl⟩) | fail)
        have KS := (show Blk 59 (wr.setCell ⟨D, q, none⟩ (.int .i64 (v : Nat))) D _ from blk_set HDJ.out q (.int .i64 (v : Nat))).keep ((Below.refl _ _).alloc (Nat.le_refl _) (.cells #[.int .i64 (X : Nat), .pointer (some ⟨D, q, none⟩)] 65))
        have KG := grown_then (grown_self HGR.out q (.int .i64 (v : Nat))) (World.grownBy_alloc _ (.cells #[.int .i64 (X : Nat), .pointer (some ⟨D, q, none⟩)] 65) none) (fun k e => by cases e)
        rw [← hrE.out] at KS
        have KS := Lib.hid KS
        have KG := Lib.hid KG
        go_roundw
        case rel => exact ⟨j + 1, by omega, by go_num, by rw [hsE.out]; go_num, by rw [hsE.out]; omega, KS.out, KG.out⟩
        case measure => simp [intOf]; omega
      · obtain ⟨e1, e2⟩ := HRE.out hfit
        rw [e1, e2] at RV
        clear e1 e2
        go_wp2_with (first | (go_at_call 74; refine (RV.out _ SF.out).mono ?_; rintro e w' ⟨rfl, rfl⟩) | fail)
        go_ret2
        have hs := HSN.out
        rw [hsE.out] at hs
        exact ⟨GF.out, by rw [if_neg (by omega)]; rfl⟩
    · obtain rfl : j = n := by omega
      go_wp2_with fail
      go_ret2
      exact ⟨HGR.out, by rw [if_pos hbd]; exact ⟨rfl, HDJ.out⟩⟩
end Go.Proofs.YtkhcfmnebflgkaaDoor
