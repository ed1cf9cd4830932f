/-
  Proved: the Go function BitsReturns, called with any list of numbers, returns true and leaves its argument as it was (what Pack has packed is what Unpack unpacks, and takes as few bytes as possible).
  Conditions: none beyond those of the given row.
-/
import Derived.Test.YtfffmdibjeefkaaBitsSplits
import Derived.Test.YtfffmdibjeefkaaBitsPacks
import Derived.Test.YtfffmdibjeefkaaDice
namespace Go.Proofs.Ytfffmdibjeefkaa.bitsReturns
open Go Go.RowKit Go.ChangeShapes Go.WideShapes Go.ChangeAt
open Go.Proofs.Ytfffmdibjeefkaa.bitsSplits (own laidOut cells3 big)
open Go.Proofs.Ytfffmdibjeefkaa.bitsPacks (bytes3)

/-! ### the lists that the dice make -/
def kAt (t : List Int) (i : Nat) : Nat := (t.getD (1 + 2 * i) 0 % 33).toNat
def vAt (t : List Int) (i : Nat) : Nat := (t.getD (2 + 2 * i) 0 % (2 ^ kAt t i : Nat)).toNat
def ksTo (t : List Int) : Nat → List Int
  | 0 => []
  | i + 1 => ksTo t i ++ [(kAt t i : Int)]
def vsTo (t : List Int) : Nat → List Int
  | 0 => []
  | i + 1 => vsTo t i ++ [(vAt t i : Int)]
theorem ksTo_length (t : List Int) : ∀ i, (ksTo t i).length = i
  | 0 => rfl
  | i + 1 => by simp [ksTo, ksTo_length t i]
theorem vsTo_length (t : List Int) : ∀ i, (vsTo t i).length = i
  | 0 => rfl
  | i + 1 => by simp [vsTo, vsTo_length t i]
theorem ksTo_get (t : List Int) : ∀ {n i : Nat}, i < n → (ksTo t n).getD i 0 = (kAt t i : Int)
  | n + 1, i, h => by
    simp only [ksTo]
    by_cases e : i = n
    · subst e
      rw [List.getD_eq_getElem?_getD, List.getElem?_append_right (by rw [ksTo_length]; omega), ksTo_length]; simp
    · have := ksTo_get t (show i < n by omega)
      rw [List.getD_eq_getElem?_getD, List.getElem?_append_left (by rw [ksTo_length]; omega), ← List.getD_eq_getElem?_getD]
      exact this
theorem vsTo_get (t : List Int) : ∀ {n i : Nat}, i < n → (vsTo t n).getD i 0 = (vAt t i : Int)
  | n + 1, i, h => by
    simp only [vsTo]
    by_cases e : i = n
    · subst e
      rw [List.getD_eq_getElem?_getD, List.getElem?_append_right (by rw [vsTo_length]; omega), vsTo_length]; simp
    · have := vsTo_get t (show i < n by omega)
      rw [List.getD_eq_getElem?_getD, List.getElem?_append_left (by rw [vsTo_length]; omega), ← List.getD_eq_getElem?_getD]
      exact this
theorem kAt_le (t : List Int) (i : Nat) : kAt t i ≤ 32 := by
  unfold kAt
  have := Int.emod_nonneg (t.getD (1 + 2 * i) 0) (show (33 : Int) ≠ 0 by omega)
  have := Int.emod_lt_of_pos (t.getD (1 + 2 * i) 0) (show (0 : Int) < 33 by omega)
  omega
theorem kAt_is (t : List Int) (i : Nat) : t.getD (1 + 2 * i) 0 % 33 = (kAt t i : Int) := by
  unfold kAt
  have := Int.emod_nonneg (t.getD (1 + 2 * i) 0) (show (33 : Int) ≠ 0 by omega)
  omega
theorem vAt_is (t : List Int) (i : Nat) : t.getD (2 + 2 * i) 0 % (2 ^ kAt t i : Nat) = (vAt t i : Int) := by
  unfold vAt
  have h1 : 1 ≤ 2 ^ kAt t i := Nat.one_le_two_pow
  generalize (2 : Nat) ^ kAt t i = m at h1
  have := Int.emod_nonneg (t.getD (2 + 2 * i) 0) (show (m : Int) ≠ 0 by omega)
  omega
theorem vAt_lt (t : List Int) (i : Nat) : vAt t i < 2 ^ kAt t i := by
  unfold vAt
  have h1 : 1 ≤ 2 ^ kAt t i := Nat.one_le_two_pow
  generalize (2 : Nat) ^ kAt t i = m at h1
  have := Int.emod_nonneg (t.getD (2 + 2 * i) 0) (show (m : Int) ≠ 0 by omega)
  have := Int.emod_lt_of_pos (t.getD (2 + 2 * i) 0) (show (0 : Int) < (m : Int) by omega)
  omega
theorem wid_ks (t : List Int) {n i : Nat} (h : i < n) : wid (ksTo t n) i = kAt t i := by unfold wid; rw [ksTo_get t h]; simp
theorem wid_vs (t : List Int) {n i : Nat} (h : i < n) : wid (vsTo t n) i = vAt t i := by unfold wid; rw [vsTo_get t h]; simp
theorem fits_all (t : List Int) (N : Nat) : ∀ n, n ≤ N → fitsTo (ksTo t N) (vsTo t N) n = true
  | 0, _ => rfl
  | n + 1, h => by
    simp only [fitsTo, Bool.and_eq_true]
    refine ⟨fits_all t N n (by omega), ?_⟩
    unfold fitsAt
    rw [ksTo_get t (show n < N by omega), vsTo_get t (show n < N by omega)]
    refine fitsB_yes ⟨by omega, by have := kAt_le t n; omega, by omega, ?_⟩
    have := vAt_lt t n
    have e0 : ((2 : Int) ^ kAt t n) = ((2 ^ kAt t n : Nat) : Int) := by simp
    rw [Int.toNat_natCast, e0]; omega
/-- all widths, summed as the law does -/
def sumK (t : List Int) : Nat → Nat
  | 0 => 0
  | i + 1 => sumK t i + kAt t i
theorem sumK_is (t : List Int) (N : Nat) : ∀ n, n ≤ N → sumTo (ksTo t N) n = sumK t n
  | 0, _ => rfl
  | n + 1, h => by simp only [sumTo, sumK]; rw [sumK_is t N n (by omega), wid_ks t (show n < N by omega)]
theorem sumK_le (t : List Int) : ∀ n, sumK t n ≤ 32 * n
  | 0 => by simp [sumK]
  | n + 1 => by have := sumK_le t n; have := kAt_le t n; simp only [sumK]; omega

/-! ### unpacking what was packed -/
theorem packTo_keep (ws vs zs : List Int) (hz : Bytes zs) (hf : ∀ i, wid vs i < 2 ^ wid ws i) : ∀ (n i j : Nat), i < n → sumTo ws n ≤ 8 * zs.length → sumTo ws i ≤ j → j < sumTo ws i + wid ws i →
    bitAt (packTo ws vs zs n) j = wid vs i / 2 ^ (wid ws i - 1 - (j - sumTo ws i)) % 2
  | n + 1, i, j, hi, hs, h1, h2 => by
    simp only [packTo]
    simp only [sumTo] at hs
    have hb := packTo_bytes (ws := ws) (vs := vs) hz n
    rw [bitAt_putTo hb _ _ _ _ _ (by rw [packTo_length]; omega)]
    by_cases e : i = n
    · subst e
      rw [if_pos ⟨h1, h2⟩]
    · have hmono := sumTo_mono ws (show i + 1 ≤ n by omega)
      simp only [sumTo] at hmono
      rw [if_neg (by omega)]
      exact packTo_keep ws vs zs hz hf n i j (by omega) (by omega) h1 h2
theorem packTo_num (ws vs zs : List Int) (hz : Bytes zs) (hf : ∀ i, wid vs i < 2 ^ wid ws i) (n i : Nat) (hi : i < n) (hs : sumTo ws n ≤ 8 * zs.length) : numAt (packTo ws vs zs n) (sumTo ws i) (wid ws i) = wid vs i := by
  have hmono := sumTo_mono ws (show i + 1 ≤ n by omega)
  simp only [sumTo] at hmono
  have h1 : numAt (packTo ws vs zs n) (sumTo ws i) (wid ws i) = numAt (putTo zs (sumTo ws i) (wid ws i) (wid vs i) (wid ws i)) (sumTo ws i) (wid ws i) := by
    apply numAt_congr
    intro j h1 h2
    rw [packTo_keep ws vs zs hz hf n i j hi hs h1 h2, bitAt_putTo hz _ _ _ _ _ (by omega), if_pos ⟨h1, h2⟩]
  rw [h1, numAt_putTo hz _ _ _ (by omega) (hf i)]
theorem packTo_rest (ws vs zs : List Int) (hz : Bytes zs) : ∀ (n j : Nat), sumTo ws n ≤ 8 * zs.length → sumTo ws n ≤ j → bitAt (packTo ws vs zs n) j = bitAt zs j
  | 0, _, _, _ => rfl
  | n + 1, j, hs, hj => by
    simp only [packTo]
    simp only [sumTo] at hs hj
    rw [bitAt_putTo (packTo_bytes hz n) _ _ _ _ _ (by rw [packTo_length]; omega), if_neg (by omega)]
    exact packTo_rest ws vs zs hz n j (by omega) (by omega)
theorem zero_bytes (m : Nat) : Bytes (List.replicate m 0) := by
  intro i
  rw [List.getD_eq_getElem?_getD, List.getElem?_replicate]
  split <;> simp
theorem zero_bit (m j : Nat) : bitAt (List.replicate m 0) j = 0 := by
  unfold bitAt
  have : (List.replicate m (0 : Int)).getD (j / 8) 0 = 0 := by
    rw [List.getD_eq_getElem?_getD, List.getElem?_replicate]
    split <;> simp
  rw [this]; simp
theorem numAt_zero (zs : List Int) (p : Nat) : ∀ n, (∀ j, p ≤ j → j < p + n → bitAt zs j = 0) → numAt zs p n = 0
  | 0, _ => rfl
  | n + 1, h => by
    simp only [numAt]
    rw [numAt_zero zs p n (fun j h1 h2 => h j h1 (by omega)), h (p + n) (by omega) (by omega)]
theorem unpackTo_eq (ws vs zs : List Int) (N : Nat) (hv : vs.length = N) (h : ∀ i, i < N → ((numAt zs (sumTo ws i) (wid ws i) : Nat) : Int) = vs.getD i 0) : unpackTo ws zs N = vs := by
  apply List.ext_getElem (by rw [unpackTo_length, hv])
  intro i h1 h2
  have e := unpackTo_get ws zs (n := N) (i := i) (by rw [unpackTo_length] at h1; exact h1)
  have e2 := h i (by rw [← hv]; exact h2)
  rw [e2] at e
  rwa [List.getD_eq_getElem?_getD, List.getD_eq_getElem?_getD, List.getElem?_eq_getElem h1, List.getElem?_eq_getElem h2] at e

/-- WHAT WAS PACKED IS UNPACKED -/
theorem returns_plain (t : List Int) (N : Nat) (hN : N ≤ 39) :
    packE (ksTo t N) (vsTo t N) = 0 ∧ (packV (ksTo t N) (vsTo t N)).length = (sumK t N + 7) / 8 ∧ unpackE (packV (ksTo t N) (vsTo t N)) (ksTo t N) = 0 ∧ unpackV (packV (ksTo t N) (vsTo t N)) (ksTo t N) = vsTo t N := by
  obtain ⟨e1, e2⟩ := pack_fits (ksTo_length t N) (vsTo_length t N) (by omega) (fits_all t N N (Nat.le_refl _))
  have hs := sumK_is t N N (Nat.le_refl _)
  have hz := zero_bytes ((sumTo (ksTo t N) N + 7) / 8)
  have hzl : (List.replicate ((sumTo (ksTo t N) N + 7) / 8) (0 : Int)).length = (sumTo (ksTo t N) N + 7) / 8 := by simp
  have hlen : (packV (ksTo t N) (vsTo t N)).length = (sumTo (ksTo t N) N + 7) / 8 := by rw [e1, packTo_length, hzl]
  have hf : ∀ i, i < N → wid (vsTo t N) i < 2 ^ wid (ksTo t N) i := fun i hi => by rw [wid_ks t hi, wid_vs t hi]; exact vAt_lt t i
  have hf2 : ∀ i, wid (vsTo t N) i < 2 ^ wid (ksTo t N) i := fun i => by
    by_cases hi : i < N
    · exact hf i hi
    · have : wid (vsTo t N) i = 0 := by
        unfold wid
        rw [List.getD_eq_getElem?_getD, List.getElem?_eq_none (by rw [vsTo_length]; omega)]; rfl
      rw [this]; exact Nat.one_le_two_pow
  have hend : endB (packV (ksTo t N) (vsTo t N)) (sumTo (ksTo t N) N) = true := by
    unfold endB
    rw [hlen]
    refine decide_eq_true ⟨rfl, numAt_zero _ _ _ fun j h1 h2 => ?_⟩
    rw [e1, packTo_rest _ _ _ hz N j (by rw [hzl]; omega) h1, zero_bit]
  have hue := unpackE_ok (zs := packV (ksTo t N) (vsTo t N)) (ksTo_length t N) hlen (by omega) (fitsTo_width (fits_all t N N (Nat.le_refl _))) (by omega) hend
  refine ⟨e2, by rw [hlen, hs], hue, ?_⟩
  rw [unpackV_ok (ksTo_length t N) hue]
  refine unpackTo_eq _ _ _ N (vsTo_length t N) fun i hi => ?_
  rw [e1, packTo_num _ _ _ hz hf2 N i hi (by rw [hzl]; omega), wid_vs t hi, vsTo_get t hi]

/-! ### the walk -/
/-- what holds at the head of a round: the dice, both lists, and that nothing older has turned -/
structure Inv (w wr : World) (G : Nat) (a : Option Addr) (n cap : Nat) (t : List Int) (c iw iv : Nat) (vw vv : Value) : Prop where
  dice : DiceAt wr G a n cap t c
  mw : Mk .i64 3 (G + 1) wr vw iw (ksTo t iw)
  mv : Mk .i64 3 (G + 1) wr vv iv (vsTo t iv)
  ap : ∀ g, vw.ownBlock = some g → vv.ownBlock ≠ some g
  low : ∀ x, a = some x → 0 < n → x.block < G
  bel : Below G w wr

theorem Inv.big {w wr : World} {G : Nat} {a : Option Addr} {n cap : Nat} {t : List Int} {c iw iv : Nat} {vw vv : Value} (h : Inv w wr G a n cap t c iw iv vw vv) : G + 1 ≤ wr.heap.size := h.dice.lt

theorem Inv.next {w wr w1 : World} {G : Nat} {a : Option Addr} {n cap : Nat} {t : List Int} {c iw iv : Nat} {vw vv : Value} (h : Inv w wr G a n cap t c iw iv vw vv)
    (hd : DiceAt w1 G a n cap t (c + 1)) (hg : wr.grownBy w1 (some G)) : Inv w w1 G a n cap t (c + 1) iw iv vw vv :=
  ⟨hd, h.mw.keepBut hg (by omega), h.mv.keepBut hg (by omega), h.ap, h.low, h.bel.trans (Below.of_but hg (Nat.le_refl _) (by have := h.big; omega))⟩

theorem Inv.pushw {w wr w1 : World} {G : Nat} {a : Option Addr} {n cap : Nat} {t : List Int} {c iw iv : Nat} {vw vv : Value} (h : Inv w wr G a n cap t c iw iv vw vv) {g cw : Nat}
    (hm : Mk .i64 3 (G + 1) w1 (.slice (some ⟨g, 0, none⟩) (iw + 1) cw) (iw + 1) (ksTo t (iw + 1))) (hg : wr.grownBy w1 vw.ownBlock) (hf : vw.ownBlock = some g ∨ g = wr.heap.size + 1) :
    Inv w w1 G a n cap t c (iw + 1) iv (.slice (some ⟨g, 0, none⟩) (iw + 1) cw) vv := by
  refine ⟨h.dice.keepRow hg (fun e => ?_) (fun x hx hn e => ?_), hm, h.mv.keepRow hg ?_, fun g' hg' => ?_, h.low, h.bel.trans (Below.of_row hg (fun g' hg' => ?_) (by have := h.big; omega))⟩
  · have := (h.mw.own_ge G e.symm).1; omega
  · have := (h.mw.own_ge _ e.symm).1; have := h.low x hx hn; omega
  · cases hv : vv.ownBlock with
    | none => exact .inl rfl
    | some y => exact .inr fun e => h.ap y e.symm hv
  · simp only [Value.ownBlock, Option.some.injEq] at hg'
    subst hg'
    intro e
    rcases hf with hf | hf
    · exact h.ap g hf e
    · have := (h.mv.own_ge g e).2; omega
  · have := (h.mw.own_ge g' hg').1; omega

theorem Inv.pushv {w wr w1 : World} {G : Nat} {a : Option Addr} {n cap : Nat} {t : List Int} {c iw iv : Nat} {vw vv : Value} (h : Inv w wr G a n cap t c iw iv vw vv) {g cv : Nat}
    (hm : Mk .i64 3 (G + 1) w1 (.slice (some ⟨g, 0, none⟩) (iv + 1) cv) (iv + 1) (vsTo t (iv + 1))) (hg : wr.grownBy w1 vv.ownBlock) (hf : vv.ownBlock = some g ∨ g = wr.heap.size + 1) :
    Inv w w1 G a n cap t c iw (iv + 1) vw (.slice (some ⟨g, 0, none⟩) (iv + 1) cv) := by
  refine ⟨h.dice.keepRow hg (fun e => ?_) (fun x hx hn e => ?_), h.mw.keepRow hg ?_, hm, fun g' hg' => ?_, h.low, h.bel.trans (Below.of_row hg (fun g' hg' => ?_) (by have := h.big; omega))⟩
  · have := (h.mv.own_ge G e.symm).1; omega
  · have := (h.mv.own_ge _ e.symm).1; have := h.low x hx hn; omega
  · cases hv : vw.ownBlock with
    | none => exact .inl rfl
    | some y => exact .inr fun e => h.ap y hv e.symm
  · intro e
    simp only [Value.ownBlock, Option.some.injEq] at e
    subst e
    rcases hf with hf | hf
    · exact h.ap g hg' hf
    · have := (h.mw.own_ge g hg').2; omega
  · have := (h.mv.own_ge g' hg').1; omega

set_option maxHeartbeats 3200000 in
theorem walk (a : Option Addr) (n cap : Nat) (t : List Int) (w : World) (hs : Sl .i64 w a n t) :
    Calls Try.prog 6 #[.slice a n cap] w fun e w' => e = .returned (.bool true) ∧ Below w.heap.size w w' := by
  have hr := hs.reach
  have hlen := hs.len
  have Hs := Lib.hid hs
  clear hs
  by_cases hn : n ≤ 400
  · have hd : decide (n ≤ 400) = true := decide_eq_true hn
    have hlow : ∀ x, a = some x → 0 < n → x.block < w.heap.size := fun x hx h0 => by
      obtain ⟨b, off, e⟩ := Hs.out.head h0
      rw [e] at hx; cases hx
      have := Hs.out
      rw [e] at this
      exact this.block h0
    have Hlow := Lib.hid hlow
    clear hlow
    obtain ⟨N, HN, hN⟩ : ∃ N : Nat, Hid (t.getD 0 0 % 40 = (N : Int)) ∧ N ≤ 39 := by
      have := Int.emod_nonneg (t.getD 0 0) (show (40 : Int) ≠ 0 by omega)
      have := Int.emod_lt_of_pos (t.getD 0 0) (show (0 : Int) < 40 by omega)
      exact ⟨(t.getD 0 0 % 40).toNat, by show _ = _; omega, by omega⟩
    have HP := Lib.hid (returns_plain t N hN)
    clear hlen
    go_enter Try.func6, Try.ntmps6
    go_wp2_with (go_at_call 20; refine (light_any _ _ _ _ (by omega)).mono ?_; rintro e w' ⟨rfl, rfl⟩)
    refine (roll_any a n cap t _ Hs.out).mono ?_
    rintro e w1 ⟨rfl, hd1, hb1, hs1⟩
    have Hd1 := Lib.hid hd1
    have Hb1 := Lib.hid hb1
    clear hd1 hb1
    go_wp2_with fail
    refine (next_any w.heap.size a n cap 0 t 40 _ Hd1.out (by omega) (by omega)).mono ?_
    rintro e w2 ⟨rfl, hd2, hg2, hs2⟩
    rw [HN.out]
    have HI : Hid (Inv w w2 w.heap.size a n cap t 1 0 0 (.slice none 0 0) (.slice none 0 0)) :=
      ⟨hd2, Mk.nil _ _ _ _, Mk.nil _ _ _ _, fun g h => by simp [Value.ownBlock] at h, Hlow.out, Hb1.out.trans (Below.of_but hg2 (Nat.le_refl _) (by omega))⟩
    clear hd2 hg2 hs2 hs1 Hd1 Hb1
    go_wp2_with fail
    go_loopw [4, 5, 6, 7] (fun vw vv sm nn wr => ∃ (i : Nat) (aw : Option Addr) (cw : Nat) (av : Option Addr) (cv : Nat), i ≤ N ∧ nn = .int .i64 (N - i : Nat) ∧ sm = .int .i64 (sumK t i : Nat) ∧ vw = .slice aw i cw ∧ vv = .slice av i cv ∧ Inv w wr w.heap.size a n cap t (1 + 2 * i) i i (.slice aw i cw) (.slice av i cv)) (fun _ _ _ nn _ => (intOf nn).toNat)
    case atStart => exact ⟨0, none, 0, none, 0, by omega, by simp, by simp [sumK], rfl, rfl, HI.out⟩
    case round =>
      obtain ⟨i, aw, cw, av, cv, hi, rfl, rfl, rfl, rfl, hinv⟩ := hrel
      have H0 := Lib.hid hinv
      clear hinv HI
      by_cases hlt : i < N
      · have hpos : (0 : Int) < ((N - i : Nat) : Int) := by omega
        have hk := kAt_le t i
        have hv := vAt_lt t i
        have hsk := sumK_le t i
        have hpw := pow32 _ hk
        have hv2 : vAt t i < 4294967296 := Nat.lt_of_lt_of_le hv hpw
        have h1pw : 1 ≤ 2 ^ kAt t i := Nat.one_le_two_pow
        obtain ⟨T, HT, HV, hT1, hT2⟩ : ∃ T : Int, Hid (wrap64 (2 ^ kAt t i) = T) ∧ Hid (t.getD (1 + 2 * i + 1) 0 % T = (vAt t i : Int)) ∧ 1 ≤ T ∧ T ≤ 4294967296 := by
          have e0 : ((2 : Int) ^ kAt t i) = ((2 ^ kAt t i : Nat) : Int) := by simp
          refine ⟨((2 ^ kAt t i : Nat) : Int), by show _ = _; rw [wrap_pow _ hk, e0], ?_, ?_, ?_⟩
          · show _ = _
            rw [show 1 + 2 * i + 1 = 2 + 2 * i from by omega]; exact vAt_is t i
          · generalize (2 : Nat) ^ kAt t i = m at hpw h1pw; omega
          · generalize (2 : Nat) ^ kAt t i = m at hpw h1pw; omega
        have HK := Lib.hid (kAt_is t i)
        have Hks : Hid (ksTo t (i + 1) = ksTo t i ++ [(kAt t i : Int)]) := rfl
        have Hvs : Hid (vsTo t (i + 1) = vsTo t i ++ [(vAt t i : Int)]) := rfl
        have Hsum : Hid (sumK t (i + 1) = sumK t i + kAt t i) := rfl
        clear hv hpw h1pw
        go_wp2_with fail
        refine (next_any w.heap.size a n cap (1 + 2 * i) t 33 _ H0.out.dice (by omega) (by omega)).mono ?_
        rintro e w3 ⟨rfl, hd3, hg3, hs3⟩
        clear hs3
        rw [HK.out]
        have H3 := Lib.hid (H0.out.next hd3 hg3)
        clear hd3 hg3
        have hB3 := H3.out.big
        go_wp2_with (at_builtin; refine wpList_push_mk rfl (.tmp 27) (.tmp 29) 35 rfl .i64 3 (w.heap.size + 1) 8 Try.underlying35 info3 (.slice aw i cw) i (ksTo t i) rfl H3.out.mw (kAt t i) 3 (nat_wf _ (by omega)) w3.heap.size rfl rfl (by omega) (by omega) hB3 ?_; intro g4 c4 w4 hm4 hg4 hf4; have H4 := Lib.hid (H3.out.pushw (by rw [Hks.out]; exact hm4) hg4 hf4); clear hm4 hg4 hf4)
        rw [HT.out]
        refine (next_any w.heap.size a n cap (1 + 2 * i + 1) t T _ H4.out.dice (by omega) (by omega)).mono ?_
        rintro e w5 ⟨rfl, hd5, hg5, hs5⟩
        clear hs5
        rw [HV.out]
        have H5 := Lib.hid (H4.out.next hd5 hg5)
        clear hd5 hg5
        have hB5 := H5.out.big
        go_wp2_with (at_builtin; refine wpList_push_mk rfl (.tmp 31) (.tmp 37) 35 rfl .i64 3 (w.heap.size + 1) 8 Try.underlying35 info3 (.slice av i cv) i (vsTo t i) rfl H5.out.mv (vAt t i) 3 (nat_wf _ (by omega)) w5.heap.size rfl rfl (by omega) (by omega) hB5 ?_; intro g6 c6 w6 hm6 hg6 hf6; have H6 := Lib.hid (H5.out.pushv (by rw [Hvs.out]; exact hm6) hg6 hf6); clear hm6 hg6 hf6)
        go_roundw
        case rel => exact ⟨i + 1, _, _, _, _, by omega, int_eq (by omega), int_eq (by rw [Hsum.out]; omega), rfl, rfl, H6.out⟩
        case measure => simp [intOf]; omega
      · obtain rfl : i = N := by omega
        obtain ⟨q1, q2, q3, q4⟩ := HP.out
        have Q2 := Lib.hid q2
        have Q3 := Lib.hid q3
        have Q4 := Lib.hid q4
        have Q1 := Lib.hid q1
        have hsk := sumK_le t i
        have Sw := Lib.hid H0.out.mw.sl
        have Sv := Lib.hid H0.out.mv.sl
        have B0 := Lib.hid H0.out.bel
        clear q1 q2 q3 q4 HP HN H0
        have hz : ((i - i : Nat) : Int) = 0 := by omega
        go_wp2_with fail
        refine (Pack_any _ _ _ _ _ _ (ksTo t i) (vsTo t i) _ Sw.out Sv.out).mono ?_
        rw [Q1.out]
        rintro e w3 ⟨a3, n3, c3, rfl, hc3, hm3, hb3⟩
        have hn3 : n3 = (sumK t i + 7) / 8 := by rw [← hm3.len]; exact Q2.out
        subst hn3
        have S3 := Lib.hid hm3.sl
        have Sw3 := Lib.hid (Sw.out.keep hb3)
        have Sv3 := Lib.hid (Sv.out.keep hb3)
        have B3 := Lib.hid (B0.out.trans (hb3.mono B0.out.size))
        clear hm3 hb3 hc3
        go_wp2_with fail
        refine (Unpack_any _ _ _ _ _ _ (packV (ksTo t i) (vsTo t i)) (ksTo t i) _ S3.out Sw3.out).mono ?_
        rw [Q3.out, Q4.out]
        rintro e w4 ⟨a4, n4, c4, rfl, hc4, hm4, hb4⟩
        have S4 := Lib.hid hm4.sl
        have Sv4 := Lib.hid (Sv3.out.keep hb4)
        have B4 := Lib.hid (B3.out.trans (hb4.mono B3.out.size))
        clear hm4 hb4 hc4
        go_wp2_with fail
        refine (awake01_any _).mono ?_
        rintro e w5 ⟨rfl, hb5⟩
        have S5 := Lib.hid (S4.out.keep hb5)
        have Sv5 := Lib.hid (Sv4.out.keep hb5)
        have B5 := Lib.hid (B4.out.trans (hb5.mono B4.out.size))
        clear hb5
        go_wp2_with fail
        refine (sameInts_any _ _ _ _ _ _ _ _ _ S5.out Sv5.out).mono ?_
        rintro e w6 ⟨rfl, hb6⟩
        rw [show decide (vsTo t i = vsTo t i) = true from decide_eq_true rfl]
        have B6 := Lib.hid (B5.out.trans (hb6.mono B5.out.size))
        clear hb6
        go_wp2
        go_ret
        exact ⟨ret_bool (by simp), B6.out⟩
  · have hd : decide (n ≤ 400) = false := decide_eq_false hn
    clear hlen
    go_enter Try.func6, Try.ntmps6
    go_wp2_with (first | (go_at_call 20; refine (light_any _ _ _ _ (by omega)).mono ?_; rintro e w' ⟨rfl, rfl⟩) | (go_at_call 14; refine (awake01_any _).mono ?_; rintro e w1 ⟨rfl, hb⟩))
    go_ret
    exact ⟨rfl, hb⟩

theorem lifted (os : Os) (started : os.Started) (H : Type) (enc : TypeId × Value → H) :
    ReturnsInHanded {} Try.checked os 6 .any (Rows.bitsReturnsSpec.pre6 enc Try.prog Try.f6 Rows.bitsReturnsRow.domain false) (Rows.bitsReturnsSpec.post enc Try.prog Try.f6 false true false false) := by
  refine law_lifted (C := Try.checked) (rt := 4) [35] own started (by kernel_rfl) Try.func6 laidOut (by rw [Try.params6])
    (fun t ht => by simp at ht; subst ht; exact ⟨by kernel_rfl, Nat.lt_trans (by omega) big⟩) rfl Try.underlying4 rfl
    (fun ds h => by match ds, h with | [d1], _ => rfl)
    (ChangeSpec.witness6 (enc := enc) (C := Try.checked) false ⟨#[], #[.slice none 0 0], []⟩ 8 (by kernel_rfl) (by kernel_rfl) (by kernel_rfl) (by kernel_rfl)) ?_
  intro W base args ds p hval hA hsz
  obtain ⟨v0, vs0, d0, ds0, p0, q0, hargs, rfl, rfl, h0, r0⟩ := trodAll_cons hA
  obtain ⟨rfl, rfl, rfl⟩ := trodAll_nil r0
  obtain rfl : args = #[v0] := by cases args; simp_all
  obtain ⟨a, n, cap, t, rfl, ht, _⟩ := open_sl Try.underlying35 Try.underlying3 cells3 (by rw [bytes3]; omega) (hval 0 35 v0 rfl rfl) h0 (fun el spa hd => sized_slice hsz (j := 0) rfl (by rw [hd]; rfl) Try.underlying35)
  exact walk a n cap t W ht

/-- THE STATEMENT -/
theorem proved : Rows.BitsReturnsSaid :=
  OpenClaim.holds_of_wide 6 Try.f6 rfl rfl rfl rfl rfl rfl rfl ⟨rfl, rfl, rfl, rfl, rfl⟩ rfl rfl rfl rfl rfl (by kernel_rfl) Try.func6 (by kernel_rfl)
    (of_decide_eq_true (by kernel_rfl)) (by unfold Func.isWrapper; first | (rw [if_pos (by decide +kernel)]; kernel_rfl) | (rw [if_neg (by decide +kernel)]; exact ⟨rfl, rfl⟩))
    (fun os started H enc _ => lifted os started H enc)
#print axioms proved
end Go.Proofs.Ytfffmdibjeefkaa.bitsReturns
