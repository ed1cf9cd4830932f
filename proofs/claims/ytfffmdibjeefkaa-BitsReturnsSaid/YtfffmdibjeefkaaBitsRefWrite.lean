/-
  What the document's own Write returns.
-/
import Derived.Test.YtfffmdibjeefkaaBitsWrite2
namespace Go.Proofs.Ytfffmdibjeefkaa
open Go Go.RowKit

theorem or_mask2 (z : Int) (q : Nat) (h0 : 0 ≤ z) (h1 : z ≤ 255) (hc : q < 8) : bits .or .u8 z (2 ^ q % 256) = (byteBit z.toNat q 1 : Nat) := by
  obtain ⟨m, rfl⟩ := Int.eq_ofNat_of_zero_le h0
  have hp : (2 : Nat) ^ q < 256 := Nat.lt_of_le_of_lt (Nat.pow_le_pow_right (by decide) (show q ≤ 7 by omega)) (by decide)
  have e : ((2 : Int) ^ q % 256) = ((2 ^ q : Nat) : Int) := by
    have : ((2 : Int) ^ q) = ((2 ^ q : Nat) : Int) := by simp
    rw [this]; generalize (2 : Nat) ^ q = t at hp; omega
  rw [e, u8_or_nat m _ (by omega) hp, byteBit_or q hc m (by omega)]; rfl
theorem andNot_mask2 (z : Int) (q : Nat) (h0 : 0 ≤ z) (h1 : z ≤ 255) (hc : q < 8) : bits .andNot .u8 z (2 ^ q % 256) = (byteBit z.toNat q 0 : Nat) := by
  obtain ⟨m, rfl⟩ := Int.eq_ofNat_of_zero_le h0
  have hp : (2 : Nat) ^ q < 256 := Nat.lt_of_le_of_lt (Nat.pow_le_pow_right (by decide) (show q ≤ 7 by omega)) (by decide)
  have e : ((2 : Int) ^ q % 256) = ((2 ^ q : Nat) : Int) := by
    have : ((2 : Int) ^ q) = ((2 ^ q : Nat) : Int) := by simp
    rw [this]; generalize (2 : Nat) ^ q = t at hp; omega
  rw [e, u8_andNot_nat m _ (by omega) hp, byteBit_andNot q hc m (by omega)]; rfl

theorem ref_step0 {B : Nat} {wr : World} {g len cap : Nat} {L : List Int} {k q : Nat} {z : Int} (h : Mk .u8 5 B wr (.slice (some ⟨g, 0, none⟩) len cap) len L) (hz : 0 ≤ z ∧ z ≤ 255) (hq : q < 8) :
    Mk .u8 5 B (wr.setCell ⟨g, k, none⟩ (.int .u8 (bits BinOp.andNot .u8 z (2 ^ q % 256)))) (.slice (some ⟨g, 0, none⟩) len cap) len (L.set k (byteBit z.toNat q 0 : Nat)) := by
  rw [andNot_mask2 z q hz.1 hz.2 hq]
  exact h.stored k _ (u8_wf _ (byteBit_all q hq z.toNat (by omega) 0 (by decide)).1)
theorem ref_step1 {B : Nat} {wr : World} {g len cap : Nat} {L : List Int} {k q : Nat} {z : Int} (h : Mk .u8 5 B wr (.slice (some ⟨g, 0, none⟩) len cap) len L) (hz : 0 ≤ z ∧ z ≤ 255) (hq : q < 8) :
    Mk .u8 5 B ((wr.setCell ⟨g, k, none⟩ (.int .u8 (bits BinOp.andNot .u8 z (2 ^ q % 256)))).setCell ⟨g, k, none⟩ (.int .u8 (bits BinOp.or .u8 (bits BinOp.andNot .u8 z (2 ^ q % 256)) (2 ^ q % 256))))
      (.slice (some ⟨g, 0, none⟩) len cap) len (L.set k (byteBit z.toNat q 1 : Nat)) := by
  have h0 := ref_step0 (k := k) h hz hq
  have hb := (byteBit_all q hq z.toNat (by omega) 0 (by decide)).1
  have e := andNot_mask2 z q hz.1 hz.2 hq
  have e2 := or_mask2 (byteBit z.toNat q 0 : Nat) q (by omega) (by omega) hq
  rw [← e] at e2
  rw [e2, e, Int.toNat_natCast, byteBit_two q hq z.toNat (by omega)]
  rw [e] at h0
  have h1 := h0.stored k _ (u8_wf _ (byteBit_all q hq z.toNat (by omega) 1 (by decide)).1)
  rwa [List.set_set] at h1

theorem putTo_succ (zs : List Int) (p n v j b : Nat) (z : Int) (hz : z = (putTo zs p n v j).getD ((p + j) / 8) 0) (hb : v / 2 ^ (n - 1 - j) % 2 = b) : putTo zs p n v (j + 1) = (putTo zs p n v j).set ((p + j) / 8) (byteBit z.toNat (7 - (p + j) % 8) b : Nat) := by
  subst hz; subst hb; rfl

set_option maxHeartbeats 800000 in
theorem refWrite_any (B : Nat) (a : Option Addr) (len cap : Nat) (p n v : Int) (zs : List Int) (w : World) (hs : Sl .u8 w a len zs) (hc : a = none → cap = 0) (hB : B ≤ w.heap.size) (h1 : p ≤ 9223372036854775807) (hv2 : v ≤ 9223372036854775807) :
    Calls Try.prog 12 #[.slice a len cap, .int .i64 p, .int .i64 n, .int .i64 v] w (RetBytes B (writeV zs p n v) (writeE zs.length p n v) w) := by
  have hl := hs.reach
  have hz := hs.len
  by_cases hr : n < 0 ∨ 32 < n ∨ v < 0 ∨ 2 ^ n.toNat ≤ v ∨ p < 0
  · have hv : writeV zs p n v = [] := by unfold writeV; rw [if_pos hr]
    have he : writeE zs.length p n v = 3 := by unfold writeE; rw [if_pos hr]
    rw [hv, he]
    clear hv he hz
    have fin : ∀ w' : World, w = w' → RetBytes B [] 3 w (.returned (.tuple #[.slice none 0 0, .int .i64 3])) w' := by
      rintro w' rfl; exact ⟨none, 0, 0, rfl, fun _ => rfl, Mk.nil _ _ _ _, Below.refl _ _⟩
    have Fin := Lib.hid fin
    clear fin
    by_cases g0 : n < 0
    · clear hr
      go_enter Try.func12, Try.ntmps12
      go_wp2
      go_ret2
      exact Fin.out _ rfl
    · by_cases g1 : 32 < n
      · clear hr
        go_enter Try.func12, Try.ntmps12
        go_wp2
        go_ret2
        exact Fin.out _ rfl
      · by_cases g2 : p < 0
        · clear hr
          go_enter Try.func12, Try.ntmps12
          go_wp2
          go_ret2
          exact Fin.out _ rfl
        · by_cases g3 : v < 0
          · clear hr
            go_enter Try.func12, Try.ntmps12
            go_wp2
            go_ret2
            exact Fin.out _ rfl
          · obtain ⟨N, rfl⟩ := Int.eq_ofNat_of_zero_le (show 0 ≤ n by omega)
            have hN : N ≤ 32 := by omega
            have g4 : decide (wrap64 (2 ^ N) ≤ v) = true := by
              rw [wrap_pow N hN, decide_eq_true_eq]
              rcases hr with h | h | h | h | h
              · omega
              · omega
              · omega
              · simpa using h
              · omega
            clear hr
            go_enter Try.func12, Try.ntmps12
            go_wp2
            go_ret2
            exact Fin.out _ rfl
  · have hp : 0 ≤ p := by omega
    obtain ⟨P, rfl⟩ := Int.eq_ofNat_of_zero_le hp
    obtain ⟨N, rfl⟩ := Int.eq_ofNat_of_zero_le (show 0 ≤ n by omega)
    obtain ⟨V, rfl⟩ := Int.eq_ofNat_of_zero_le (show 0 ≤ v by omega)
    have hN : N ≤ 32 := by omega
    have g4 : decide (wrap64 (2 ^ N) ≤ (V : Int)) = false := by
      rw [wrap_pow N hN, decide_eq_false_iff_not]
      exact fun h => hr (.inr (.inr (.inr (.inl (by simpa using h)))))
    have hV : V < 2 ^ N := by
      have : ¬ (2 : Int) ^ N ≤ (V : Int) := fun h => hr (.inr (.inr (.inr (.inl h))))
      have e : ((2 : Int) ^ N) = ((2 ^ N : Nat) : Int) := by simp
      rw [e] at this; omega
    have HV := Lib.hid hV
    by_cases hb : 8 * (len : Int) < P + N
    · have hv : writeV zs P N V = [] := by unfold writeV; rw [if_neg hr, if_pos (by omega)]
      have he : writeE zs.length P N V = 5 := by unfold writeE; rw [if_neg hr, if_pos (by omega)]
      rw [hv, he]
      clear hr hv he hz hV
      by_cases hq : 8 * (len : Int) < P
      all_goals
        go_enter Try.func12, Try.ntmps12
        go_wp2
        go_ret2
        exact ⟨none, 0, 0, rfl, fun _ => rfl, Mk.nil _ _ _ _, Below.refl _ _⟩
    · have hv : writeV zs P N V = putTo zs P N V N := by unfold writeV; rw [if_neg hr, if_neg (by omega)]; simp
      have he : writeE zs.length P N V = 0 := by unfold writeE; rw [if_neg hr, if_neg (by omega)]
      rw [hv, he]
      clear hr hv he hz hV
      have Hs := Lib.hid hs
      clear hs
      go_enter Try.func12, Try.ntmps12
      go_wp2_with (at_builtin; refine wpList_append_mk rfl _ _ 22 rfl .u8 5 B 1 Try.underlying22 info5 (.slice none 0 0) 0 [] rfl (Mk.nil .u8 5 B w) a len cap zs rfl Hs.out hc (by omega) (by omega) hB ?_; intro ao cap' w' hmk hbe hn)
      rw [Nat.zero_add] at hmk
      have Hmk := Lib.hid hmk
      clear hmk
      go_loopw [11] (fun k wr => ∃ j : Nat, j ≤ N ∧ k = .int .i64 j ∧ Mk .u8 5 B wr (.slice ao len cap') len (putTo zs P N V j) ∧ Below B w wr) (fun k _ => N - (intOf k).toNat)
      case atStart => exact ⟨0, by omega, by simp, Hmk.out, hbe⟩
      case round =>
        obtain ⟨j, hj, rfl, hmj, hbj⟩ := hrel
        by_cases hlt : j < N
        · have hlen := hmj.len
          obtain ⟨g, off, rfl⟩ := hmj.sl.head (by omega)
          obtain rfl : off = 0 := by
            rcases hmj.shape with ⟨e, _⟩ | ⟨g', cap', e, _⟩
            · simp at e
            · simp at e; exact e.1.2
          have hblk := hmj.block
          have hc := hmj.at (j := (P + j) / 8) (by omega)
          have hf := hmj.free ((P + j) / 8)
          have hz := hmj.sl.u8 ((P + j) / 8)
          have hbit := bit_of V (N - 1 - j) (Nat.lt_of_lt_of_le HV.out (pow32 N hN))
          have hlt2 : V / 2 ^ (N - 1 - j) % 2 < 2 := Nat.mod_lt _ (by decide)
          have Hmj := Lib.hid hmj
          clear hmj hlen
          obtain ⟨z, HZ⟩ : ∃ z, Hid (z = (putTo zs P N V j).getD ((P + j) / 8) 0) := ⟨_, rfl⟩
          rw [← HZ.out] at hc hz
          by_cases hone : V / 2 ^ (N - 1 - j) % 2 = 1
          · have hB : (bits BinOp.and IntKind.i64 ((V : Int) / 2 ^ (N - 1 - j)) 1 == 1) = true := by rw [hbit, hone]; rfl
            have Hone := Lib.hid hone
            clear hone hbit hlt2
            go_wp2
            go_roundw
            case rel =>
              go_light
              refine ⟨j + 1, by omega, by go_num, ?_, (hbj.setCell hblk.1 _).setCell hblk.1 _⟩
              rw [putTo_succ zs P N V j 1 z HZ.out Hone.out]
              exact ref_step1 Hmj.out hz (by omega)
            case measure => simp [intOf]; omega
          · have hzero : V / 2 ^ (N - 1 - j) % 2 = 0 := by omega
            have hB : (bits BinOp.and IntKind.i64 ((V : Int) / 2 ^ (N - 1 - j)) 1 == 1) = false := by rw [hbit, hzero]; rfl
            have Hzero := Lib.hid hzero
            clear hone hbit hlt2 hzero
            go_wp2
            go_roundw
            case rel =>
              go_light
              refine ⟨j + 1, by omega, by go_num, ?_, hbj.setCell hblk.1 _⟩
              rw [putTo_succ zs P N V j 0 z HZ.out Hzero.out]
              exact ref_step0 Hmj.out hz (by omega)
            case measure => simp [intOf]; omega
        · obtain rfl : j = N := by omega
          go_wp2
          go_ret2
          exact ⟨ao, len, cap', rfl, fun h => (hn h).2, hmj, hbj⟩
end Go.Proofs.Ytfffmdibjeefkaa
