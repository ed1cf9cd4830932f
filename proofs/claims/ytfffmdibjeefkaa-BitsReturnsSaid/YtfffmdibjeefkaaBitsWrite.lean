/-
  What Write and what it calls return.
-/
import Derived.Test.YtfffmdibjeefkaaBitsRead
import Derived.Test.YtfffmdibjeefkaaMk
namespace Go.Proofs.Ytfffmdibjeefkaa
open Go Go.RowKit

theorem pow32 (n : Nat) (h : n ≤ 32) : (2 : Nat) ^ n ≤ 4294967296 := Nat.le_trans (Nat.pow_le_pow_right (by decide) h) (by decide)
theorem wrap_pow (n : Nat) (h : n ≤ 32) : wrap64 (2 ^ n) = 2 ^ n := by
  have := pow32 n h
  have e : ((2 : Int) ^ n) = ((2 ^ n : Nat) : Int) := by simp
  rw [e]
  generalize (2 : Nat) ^ n = t at this
  exact IntWalk.wrap64_in _ ⟨by omega, by omega⟩

/-- a byte's bit set, or cleared -/
theorem or_mask (z : Int) (c : Nat) (h0 : 0 ≤ z) (h1 : z ≤ 255) (hc : c < 8) : bits .or .u8 z (128 / 2 ^ c) = (byteBit z.toNat (7 - c) 1 : Nat) := by
  obtain ⟨m, rfl⟩ := Int.eq_ofNat_of_zero_le h0
  have e : ((128 : Int) / 2 ^ c) = ((2 ^ (7 - c) : Nat) : Int) := by
    have : ∀ c, c < 8 → 128 / 2 ^ c = 2 ^ (7 - c) := by decide
    rw [← this c hc]; simp
  have hp : (2 : Nat) ^ (7 - c) < 256 := Nat.lt_of_le_of_lt (Nat.pow_le_pow_right (by decide) (show 7 - c ≤ 7 by omega)) (by decide)
  rw [e, u8_or_nat m _ (by omega) hp, byteBit_or (7 - c) (by omega) m (by omega)]; rfl
theorem andNot_mask (z : Int) (c : Nat) (h0 : 0 ≤ z) (h1 : z ≤ 255) (hc : c < 8) : bits .andNot .u8 z (128 / 2 ^ c) = (byteBit z.toNat (7 - c) 0 : Nat) := by
  obtain ⟨m, rfl⟩ := Int.eq_ofNat_of_zero_le h0
  have e : ((128 : Int) / 2 ^ c) = ((2 ^ (7 - c) : Nat) : Int) := by
    have : ∀ c, c < 8 → 128 / 2 ^ c = 2 ^ (7 - c) := by decide
    rw [← this c hc]; simp
  have hp : (2 : Nat) ^ (7 - c) < 256 := Nat.lt_of_le_of_lt (Nat.pow_le_pow_right (by decide) (show 7 - c ≤ 7 by omega)) (by decide)
  rw [e, u8_andNot_nat m _ (by omega) hp, byteBit_andNot (7 - c) (by omega) m (by omega)]; rfl
theorem u8_wf (n : Nat) (h : n < 256) : (Lit.int .u8 (n : Int)).wf = true := by
  simp [Lit.wf, IntKind.min, IntKind.max, IntKind.signed, IntKind.bits]; omega
theorem bit_of (v q : Nat) (hv : v < 4294967296) : bits BinOp.and IntKind.i64 ((v : Int) / 2 ^ q) 1 = (v / 2 ^ q % 2 : Nat) := by
  have e : ((v : Int) / 2 ^ q) = ((v / 2 ^ q : Nat) : Int) := by simp
  have := Nat.div_le_self v (2 ^ q)
  rw [e]
  generalize v / 2 ^ q = t at this
  rw [i64_and_one _ (by omega) (by omega)]; omega

def fitsB (n v : Int) : Bool := decide (0 ≤ n ∧ n ≤ 32 ∧ 0 ≤ v ∧ v < 2 ^ n.toNat)
theorem fitsB_yes {n v : Int} (h : 0 ≤ n ∧ n ≤ 32 ∧ 0 ≤ v ∧ v < 2 ^ n.toNat) : fitsB n v = true := by unfold fitsB; exact decide_eq_true h
theorem fitsB_no {n v : Int} (h : ¬ (0 ≤ n ∧ n ≤ 32 ∧ 0 ≤ v ∧ v < 2 ^ n.toNat)) : fitsB n v = false := by unfold fitsB; exact decide_eq_false h

set_option maxHeartbeats 400000 in
theorem fits_any (n v : Int) (w : World) :
    Calls Try.prog 26 #[.int .i64 n, .int .i64 v] w fun e w' => e = .returned (.bool (fitsB n v)) ∧ w = w' := by
  by_cases hw : 0 ≤ n ∧ n ≤ 32
  · have hd : decide (0 ≤ n ∧ n ≤ 32) = true := by simp; omega
    obtain ⟨N, rfl⟩ := Int.eq_ofNat_of_zero_le hw.1
    have hn1 : N ≤ 32 := by omega
    by_cases hv : 0 ≤ v
    · go_enter Try.func26, Try.ntmps26
      go_wp2_with (go_at_call 23; refine (isWidth_any _ _).mono ?_; rintro e w' ⟨rfl, rfl⟩)
      go_ret
      have hp := pow32 N hn1
      exact ⟨ret_bool (by unfold fitsB; rw [wrap_pow N hn1]; simp [hv]; omega), rfl⟩
    · go_enter Try.func26, Try.ntmps26
      go_wp2_with (go_at_call 23; refine (isWidth_any _ _).mono ?_; rintro e w' ⟨rfl, rfl⟩)
      go_ret
      exact ⟨ret_bool (by unfold fitsB; simp; omega), rfl⟩
  · have hd : decide (0 ≤ n ∧ n ≤ 32) = false := by simp; omega
    go_enter Try.func26, Try.ntmps26
    go_wp2_with (go_at_call 23; refine (isWidth_any _ _).mono ?_; rintro e w' ⟨rfl, rfl⟩)
    go_ret
    exact ⟨ret_bool (by unfold fitsB; simp; omega), rfl⟩

theorem info5 : (Try.prog.info? 5).map (fun i => (i.zero, i.size, i.bytes)) = some (some (.int .u8 0), 1, 1) := by kernel_rfl

set_option maxHeartbeats 400000 in
theorem put_any (B : Nat) (a : Option Addr) (m cap p n v : Nat) (zs : List Int) (w : World) (hm : Mk .u8 5 B w (.slice a m cap) m zs) (hb : p + n ≤ 8 * m) (hn : n ≤ 32) (hv : v < 2 ^ n) :
    Calls Try.prog 28 #[.slice a m cap, .int .i64 p, .int .i64 n, .int .i64 v] w fun e w' => e = .returned (.tuple #[]) ∧ Mk .u8 5 B w' (.slice a m cap) m (putTo zs p n v n) ∧ Below B w w' := by
  have hr := hm.reach
  have Hm := Lib.hid hm
  have Hv := Lib.hid hv
  clear hm hv
  go_enter Try.func28, Try.ntmps28
  go_wp2
  go_loopw [12] (fun k wr => ∃ j : Nat, j ≤ n ∧ k = .int .i64 j ∧ Mk .u8 5 B wr (.slice a m cap) m (putTo zs p n v j) ∧ Below B w wr) (fun k _ => n - (intOf k).toNat)
  case atStart => exact ⟨0, by omega, by simp, Hm.out, Below.refl _ _⟩
  case round =>
    obtain ⟨j, hj, rfl, hmj, hbj⟩ := hrel
    by_cases hlt : j < n
    · have hlen := hmj.len
      obtain ⟨g, off, rfl⟩ := hmj.sl.head (by omega)
      obtain rfl : off = 0 := by
        rcases hmj.shape with ⟨e, _⟩ | ⟨g', cap', e, _⟩
        · simp at e
        · simp at e; exact e.1.2
      have hblk := hmj.block
      have hc := hmj.at (j := (p + j) / 8) (by omega)
      have hf := hmj.free ((p + j) / 8)
      have hz := hmj.sl.u8 ((p + j) / 8)
      have hset := fun u hu => hmj.stored ((p + j) / 8) u hu
      have Hset := Lib.hid hset
      have Hstep : Hid (putTo zs p n v (j + 1) = (putTo zs p n v j).set ((p + j) / 8) (byteBit ((putTo zs p n v j).getD ((p + j) / 8) 0).toNat (7 - (p + j) % 8) (v / 2 ^ (n - 1 - j) % 2) : Nat)) := rfl
      have hbit := bit_of v (n - 1 - j) (Nat.lt_of_lt_of_le Hv.out (pow32 n hn))
      have hlt2 : v / 2 ^ (n - 1 - j) % 2 < 2 := Nat.mod_lt _ (by decide)
      have hbyte := fun x hx => (byteBit_all (7 - (p + j) % 8) (by omega) ((putTo zs p n v j).getD ((p + j) / 8) 0).toNat (by omega) x hx).1
      have Hbyte := Lib.hid hbyte
      clear hset hbyte hmj hlen
      generalize (putTo zs p n v j).getD ((p + j) / 8) 0 = z at hc hz Hstep Hbyte
      by_cases hone : v / 2 ^ (n - 1 - j) % 2 = 1
      · have hB : (bits BinOp.and IntKind.i64 ((v : Int) / 2 ^ (n - 1 - j)) 1 == 1) = true := by rw [hbit, hone]; rfl
        have Hone := Lib.hid hone
        clear hone hbit hlt2
        go_wp2
        go_roundw
        case rel =>
          go_light
          refine ⟨j + 1, by omega, by go_num, ?_, hbj.setCell hblk.1 _⟩
          rw [Hstep.out, Hone.out, ← or_mask z ((p + j) % 8) hz.1 hz.2 (by omega)]
          exact Hset.out _ (by rw [or_mask z ((p + j) % 8) hz.1 hz.2 (by omega)]; exact u8_wf _ (Hbyte.out 1 (by decide)))
        case measure => simp [intOf]; omega
      · have hzero : v / 2 ^ (n - 1 - j) % 2 = 0 := by omega
        have hB : (bits BinOp.and IntKind.i64 ((v : Int) / 2 ^ (n - 1 - j)) 1 == 1) = false := by rw [hbit, hzero]; rfl
        have Hzero := Lib.hid hzero
        clear hone hbit hlt2 hzero
        go_wp2
        go_roundw
        case rel =>
          go_light
          refine ⟨j + 1, by omega, by go_num, ?_, hbj.setCell hblk.1 _⟩
          rw [Hstep.out, Hzero.out, ← andNot_mask z ((p + j) % 8) hz.1 hz.2 (by omega)]
          exact Hset.out _ (by rw [andNot_mask z ((p + j) % 8) hz.1 hz.2 (by omega)]; exact u8_wf _ (Hbyte.out 0 (by decide)))
        case measure => simp [intOf]; omega
    · obtain rfl : j = n := by omega
      go_wp2
      go_end0
      exact ⟨rfl, hmj, hbj⟩

end Go.Proofs.Ytfffmdibjeefkaa
