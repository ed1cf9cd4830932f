/-
  Joined: BitsRead BitsWrite BitsClone BitsPackPlain BitsPack PkRef PkFns FlPlain FlRef0 FmPlain FmBits FmRow FmPeek FmTake FmTk FmWhole.
-/
import Derived.Test.YtkhcfmnebflgkaaDoorJBase
import Derived.Test.YtkhcfmnebflgkaaDoorProg
/-
  What Read and what it calls return.
-/
namespace Go.Proofs.YtkhcfmnebflgkaaDoor
open Go Go.RowKit

theorem isWidth_any (n : Int) (w : World) :
    Calls Tryd.prog 75 #[.int .i64 n] w fun e w' => e = .returned (.bool (decide (0 ≤ n ∧ n ≤ 32))) ∧ w = w' := by
  by_cases h0 : 0 ≤ n
  · by_cases h1 : n ≤ 32
    all_goals
      go_enter Tryd.func75, Tryd.ntmps75
      go_wp2
      go_ret
      exact ⟨ret_bool (by simp; omega), rfl⟩
  · go_enter Tryd.func75, Tryd.ntmps75
    go_wp2
    go_ret
    exact ⟨ret_bool (by simp; omega), rfl⟩

theorem hasBits_any (a : Option Addr) (len cap : Nat) (p n : Int) (w : World) (hl : len ≤ 140737488355328) (h0 : 0 ≤ p) (h1 : p ≤ 9223372036854775807) :
    Calls Tryd.prog 76 #[.slice a len cap, .int .i64 p, .int .i64 n] w fun e w' => e = .returned (.bool (decide (n ≤ 8 * (len : Int) - p))) ∧ w = w' := by
  go_enter Tryd.func76, Tryd.ntmps76
  go_wp2
  go_ret
  exact ⟨rfl, rfl⟩

set_option maxHeartbeats 400000 in
theorem number_any (a : Option Addr) (len cap : Nat) (p n : Nat) (zs : List Int) (w : World) (hs : Sl .u8 w a len zs) (hb : p + n ≤ 8 * len) (hn : n ≤ 32) :
    Calls Tryd.prog 77 #[.slice a len cap, .int .i64 p, .int .i64 n] w fun e w' => e = .returned (.int .i64 (numAt zs p n : Nat)) ∧ w = w' := by
  have hl := hs.reach
  have Hs := Lib.hid hs
  clear hs
  go_enter Tryd.func77, Tryd.ntmps77
  go_wp2
  go_loop [7, 8, 10] (fun v i k => ∃ (j : Nat) (y : Value), j ≤ n ∧ k = .int .i64 j ∧ v = .int .i64 (numAt zs p j : Nat) ∧ i = y) (fun _ _ k => n - (intOf k).toNat)
  case atStart => exact ⟨0, _, by omega, by simp, by simp [numAt], rfl⟩
  case round =>
    obtain ⟨j, y, hj, rfl, rfl, rfl⟩ := hrel
    by_cases hlt : j < n
    · obtain ⟨b, off, rfl⟩ := Hs.out.head (by omega)
      have hc := Hs.out.at (i := (p + j) / 8) (by omega)
      have hz := Hs.out.u8 ((p + j) / 8)
      have hx := numAt_le32 zs p j (by omega)
      have HS : Hid (numAt zs p (j + 1) = 2 * numAt zs p j + bitAt zs (p + j)) := rfl
      have HB : Hid (bitAt zs (p + j) = (zs.getD ((p + j) / 8) 0).toNat / 2 ^ (7 - (p + j) % 8) % 2) := rfl
      generalize zs.getD ((p + j) / 8) 0 = z at hc hz HB
      generalize numAt zs p j = x at hx HS
      go_wp2
      go_round
      case rel =>
        go_light
        refine ⟨j + 1, _, by omega, by go_num, int_eq ?_, rfl⟩
        have h1 := HS.out
        have h2 := HB.out
        have hd : z / 2 ^ (7 - (p + j) % 8) = ((z.toNat / 2 ^ (7 - (p + j) % 8) : Nat) : Int) := by
          obtain ⟨m, rfl⟩ := Int.eq_ofNat_of_zero_le hz.1
          simp
        have hd2 : z.toNat / 2 ^ (7 - (p + j) % 8) ≤ z.toNat := Nat.div_le_self _ _
        rw [hd]
        generalize z.toNat / 2 ^ (7 - (p + j) % 8) = q at h2 hd2
        rw [IntWalk.wrap64_in q ⟨by omega, by omega⟩, i64_and_one q (by omega) (by omega), i64_or_bit x _ (by omega) (by omega) (by omega) (by omega)]
        omega
      case measure => simp [intOf]; omega
    · obtain rfl : j = n := by omega
      go_wp2
      go_ret
      exact ⟨rfl, rfl⟩

/-- what Read answers -/
def readV (zs : List Int) (p n : Int) : Int := if n < 0 ∨ 32 < n ∨ p < 0 then 0 else if 8 * (zs.length : Int) < p + n then 0 else (numAt zs p.toNat n.toNat : Nat)
def readE (zs : List Int) (p n : Int) : Int := if n < 0 ∨ 32 < n ∨ p < 0 then 3 else if 8 * (zs.length : Int) < p + n then 5 else 0

set_option maxHeartbeats 400000 in
theorem Read_any (a : Option Addr) (len cap : Nat) (p n : Int) (zs : List Int) (w : World) (hs : Sl .u8 w a len zs) (h1 : p ≤ 9223372036854775807) :
    Calls Tryd.prog 74 #[.slice a len cap, .int .i64 p, .int .i64 n] w fun e w' => e = .returned (.tuple #[.int .i64 (readV zs p n), .int .i64 (readE zs p n)]) ∧ w = w' := by
  have hl := hs.reach
  have hz := hs.len
  by_cases hn : n < 0 ∨ 32 < n
  · have hv : readV zs p n = 0 := by unfold readV; rw [if_pos (by omega)]
    have he : readE zs p n = 3 := by unfold readE; rw [if_pos (by omega)]
    rw [hv, he]
    have hd : decide (0 ≤ n ∧ n ≤ 32) = false := by simp; omega
    clear hv he hz
    go_enter Tryd.func74, Tryd.ntmps74
    go_wp2_with (go_at_call 75; refine (isWidth_any _ _).mono ?_; rintro e w' ⟨rfl, rfl⟩)
    go_ret2
    exact ⟨rfl, rfl⟩
  · have hd : decide (0 ≤ n ∧ n ≤ 32) = true := by simp; omega
    by_cases hp : p < 0
    · have hv : readV zs p n = 0 := by unfold readV; rw [if_pos (by omega)]
      have he : readE zs p n = 3 := by unfold readE; rw [if_pos (by omega)]
      rw [hv, he]
      clear hv he hz
      go_enter Tryd.func74, Tryd.ntmps74
      go_wp2_with (go_at_call 75; refine (isWidth_any _ _).mono ?_; rintro e w' ⟨rfl, rfl⟩)
      go_ret2
      exact ⟨rfl, rfl⟩
    · by_cases hb : 8 * (len : Int) < p + n
      · have hv : readV zs p n = 0 := by unfold readV; rw [if_neg (by omega), if_pos (by omega)]
        have he : readE zs p n = 5 := by unfold readE; rw [if_neg (by omega), if_pos (by omega)]
        rw [hv, he]
        have hd2 : decide (n ≤ 8 * (len : Int) - p) = false := by simp; omega
        clear hv he hz
        go_enter Tryd.func74, Tryd.ntmps74
        go_wp2_with (first | (go_at_call 75; refine (isWidth_any _ _).mono ?_; rintro e w' ⟨rfl, rfl⟩) | (go_at_call 76; refine (hasBits_any _ _ _ _ _ _ (by omega) (by omega) (by omega)).mono ?_; rintro e w' ⟨rfl, rfl⟩))
        go_ret2
        exact ⟨rfl, rfl⟩
      · have hd2 : decide (n ≤ 8 * (len : Int) - p) = true := by simp; omega
        obtain ⟨P, rfl⟩ := Int.eq_ofNat_of_zero_le (show 0 ≤ p by omega)
        obtain ⟨N, rfl⟩ := Int.eq_ofNat_of_zero_le (show 0 ≤ n by omega)
        have hv : readV zs P N = (numAt zs P N : Nat) := by unfold readV; rw [if_neg (by omega), if_neg (by omega)]; simp
        have he : readE zs P N = 0 := by unfold readE; rw [if_neg (by omega), if_neg (by omega)]
        rw [hv, he]
        clear hv he hz
        have Hs := Lib.hid hs
        clear hs
        go_enter Tryd.func74, Tryd.ntmps74
        go_wp2_with (first | (go_at_call 75; refine (isWidth_any _ _).mono ?_; rintro e w' ⟨rfl, rfl⟩) | (go_at_call 76; refine (hasBits_any _ _ _ _ _ _ (by omega) (by omega) (by omega)).mono ?_; rintro e w' ⟨rfl, rfl⟩) | (go_at_call 77; refine (number_any _ _ _ _ _ zs _ Hs.out (by omega) (by omega)).mono ?_; rintro e w' ⟨rfl, rfl⟩))
        go_ret2
        exact ⟨rfl, rfl⟩
end Go.Proofs.YtkhcfmnebflgkaaDoor
/-
  What Write and what it calls return.
-/
namespace Go.Proofs.YtkhcfmnebflgkaaDoor
open Go Go.RowKit

theorem pow32 (n : Nat) (h : n ≤ 32) : (2 : Nat) ^ n ≤ 4294967296 := Nat.le_trans (Nat.pow_le_pow_right (by decide) h) (by decide)
theorem wrap_pow (n : Nat) (h : n ≤ 32) : wrap64 (2 ^ n) = 2 ^ n := by
  have := pow32 n h
  have e : ((2 : Int) ^ n) = ((2 ^ n : Nat) : Int) := by simp
  rw [e]
  generalize (2 : Nat) ^ n = t at this
  exact IntWalk.wrap64_in _ ⟨by omega, by omega⟩

/-- a byte's bit set, or cleared -/
theorem or_mask (z : Int) (c : Nat) (h0 : 0 ≤ z) (h1 : z ≤ 255) (hc : c < 8) : bits .or .u8 z (128 / 2 ^ c) = (byteBit z.toNat (7 - c) 1 : Nat) := by
  obtain ⟨m, rfl⟩ := Int.eq_ofNat_of_zero_le h0
  have e : ((128 : Int) / 2 ^ c) = ((2 ^ (7 - c) : Nat) : Int) := by
    have : ∀ c, c < 8 → 128 / 2 ^ c = 2 ^ (7 - c) := by decide
    rw [← this c hc]; simp
  have hp : (2 : Nat) ^ (7 - c) < 256 := Nat.lt_of_le_of_lt (Nat.pow_le_pow_right (by decide) (show 7 - c ≤ 7 by omega)) (by decide)
  rw [e, u8_or_nat m _ (by omega) hp, byteBit_or (7 - c) (by omega) m (by omega)]; rfl
theorem andNot_mask (z : Int) (c : Nat) (h0 : 0 ≤ z) (h1 : z ≤ 255) (hc : c < 8) : bits .andNot .u8 z (128 / 2 ^ c) = (byteBit z.toNat (7 - c) 0 : Nat) := by
  obtain ⟨m, rfl⟩ := Int.eq_ofNat_of_zero_le h0
  have e : ((128 : Int) / 2 ^ c) = ((2 ^ (7 - c) : Nat) : Int) := by
    have : ∀ c, c < 8 → 128 / 2 ^ c = 2 ^ (7 - c) := by decide
    rw [← this c hc]; simp
  have hp : (2 : Nat) ^ (7 - c) < 256 := Nat.lt_of_le_of_lt (Nat.pow_le_pow_right (by decide) (show 7 - c ≤ 7 by omega)) (by decide)
  rw [e, u8_andNot_nat m _ (by omega) hp, byteBit_andNot (7 - c) (by omega) m (by omega)]; rfl
theorem u8_wf (n : Nat) (h : n < 256) : (Lit.int .u8 (n : Int)).wf = true := by
  simp [Lit.wf, IntKind.min, IntKind.max, IntKind.signed, IntKind.bits]; omega
theorem bit_of (v q : Nat) (hv : v < 4294967296) : bits BinOp.and IntKind.i64 ((v : Int) / 2 ^ q) 1 = (v / 2 ^ q % 2 : Nat) := by
  have e : ((v : Int) / 2 ^ q) = ((v / 2 ^ q : Nat) : Int) := by simp
  have := Nat.div_le_self v (2 ^ q)
  rw [e]
  generalize v / 2 ^ q = t at this
  rw [i64_and_one _ (by omega) (by omega)]; omega

def fitsB (n v : Int) : Bool := decide (0 ≤ n ∧ n ≤ 32 ∧ 0 ≤ v ∧ v < 2 ^ n.toNat)
theorem fitsB_yes {n v : Int} (h : 0 ≤ n ∧ n ≤ 32 ∧ 0 ≤ v ∧ v < 2 ^ n.toNat) : fitsB n v = true := by unfold fitsB; exact decide_eq_true h
theorem fitsB_no {n v : Int} (h : ¬ (0 ≤ n ∧ n ≤ 32 ∧ 0 ≤ v ∧ v < 2 ^ n.toNat)) : fitsB n v = false := by unfold fitsB; exact decide_eq_false h

set_option maxHeartbeats 400000 in
theorem fits_any (n v : Int) (w : World) :
    Calls Tryd.prog 70 #[.int .i64 n, .int .i64 v] w fun e w' => e = .returned (.bool (fitsB n v)) ∧ w = w' := by
  by_cases hw : 0 ≤ n ∧ n ≤ 32
  · have hd : decide (0 ≤ n ∧ n ≤ 32) = true := by simp; omega
    obtain ⟨N, rfl⟩ := Int.eq_ofNat_of_zero_le hw.1
    have hn1 : N ≤ 32 := by omega
    by_cases hv : 0 ≤ v
    · go_enter Tryd.func70, Tryd.ntmps70
      go_wp2_with (go_at_call 75; refine (isWidth_any _ _).mono ?_; rintro e w' ⟨rfl, rfl⟩)
      go_ret
      have hp := pow32 N hn1
      exact ⟨ret_bool (by unfold fitsB; rw [wrap_pow N hn1]; simp [hv]; omega), rfl⟩
    · go_enter Tryd.func70, Tryd.ntmps70
      go_wp2_with (go_at_call 75; refine (isWidth_any _ _).mono ?_; rintro e w' ⟨rfl, rfl⟩)
      go_ret
      exact ⟨ret_bool (by unfold fitsB; simp; omega), rfl⟩
  · have hd : decide (0 ≤ n ∧ n ≤ 32) = false := by simp; omega
    go_enter Tryd.func70, Tryd.ntmps70
    go_wp2_with (go_at_call 75; refine (isWidth_any _ _).mono ?_; rintro e w' ⟨rfl, rfl⟩)
    go_ret
    exact ⟨ret_bool (by unfold fitsB; simp; omega), rfl⟩

theorem info5 : (Tryd.prog.info? 5).map (fun i => (i.zero, i.size, i.bytes)) = some (some (.int .u8 0), 1, 1) := by kernel_rfl

set_option maxHeartbeats 400000 in
theorem put_any (B : Nat) (a : Option Addr) (m cap p n v : Nat) (zs : List Int) (w : World) (hm : Mk .u8 5 B w (.slice a m cap) m zs) (hb : p + n ≤ 8 * m) (hn : n ≤ 32) (hv : v < 2 ^ n) :
    Calls Tryd.prog 73 #[.slice a m cap, .int .i64 p, .int .i64 n, .int .i64 v] w fun e w' => e = .returned (.tuple #[]) ∧ Mk .u8 5 B w' (.slice a m cap) m (putTo zs p n v n) ∧ Below B w w' := by
  have hr := hm.reach
  have Hm := Lib.hid hm
  have Hv := Lib.hid hv
  clear hm hv
  go_enter Tryd.func73, Tryd.ntmps73
  go_wp2
  go_loopw [12] (fun k wr => ∃ j : Nat, j ≤ n ∧ k = .int .i64 j ∧ Mk .u8 5 B wr (.slice a m cap) m (putTo zs p n v j) ∧ Below B w wr) (fun k _ => n - (intOf k).toNat)
  case atStart => exact ⟨0, by omega, by simp, Hm.out, Below.refl _ _⟩
  case round =>
    obtain ⟨j, hj, rfl, hmj, hbj⟩ := hrel
    by_cases hlt : j < n
    · have hlen := hmj.len
      obtain ⟨g, off, rfl⟩ := hmj.sl.head (by omega)
      obtain rfl : off = 0 := by
        rcases hmj.shape with ⟨e, _⟩ | ⟨g', cap', e, _⟩
        · simp at e
        · simp at e; exact e.1.2
      have hblk := hmj.block
      have hc := hmj.at (j := (p + j) / 8) (by omega)
      have hf := hmj.free ((p + j) / 8)
      have hz := hmj.sl.u8 ((p + j) / 8)
      have hset := fun u hu => hmj.stored ((p + j) / 8) u hu
      have Hset := Lib.hid hset
      have Hstep : Hid (putTo zs p n v (j + 1) = (putTo zs p n v j).set ((p + j) / 8) (byteBit ((putTo zs p n v j).getD ((p + j) / 8) 0).toNat (7 - (p + j) % 8) (v / 2 ^ (n - 1 - j) % 2) : Nat)) := rfl
      have hbit := bit_of v (n - 1 - j) (Nat.lt_of_lt_of_le Hv.out (pow32 n hn))
      have hlt2 : v / 2 ^ (n - 1 - j) % 2 < 2 := Nat.mod_lt _ (by decide)
      have hbyte := fun x hx => (byteBit_all (7 - (p + j) % 8) (by omega) ((putTo zs p n v j).getD ((p + j) / 8) 0).toNat (by omega) x hx).1
      have Hbyte := Lib.hid hbyte
      clear hset hbyte hmj hlen
      generalize (putTo zs p n v j).getD ((p + j) / 8) 0 = z at hc hz Hstep Hbyte
      by_cases hone : v / 2 ^ (n - 1 - j) % 2 = 1
      · have hB : (bits BinOp.and IntKind.i64 ((v : Int) / 2 ^ (n - 1 - j)) 1 == 1) = true := by rw [hbit, hone]; rfl
        have Hone := Lib.hid hone
        clear hone hbit hlt2
        go_wp2
        go_roundw
        case rel =>
          go_light
          refine ⟨j + 1, by omega, by go_num, ?_, hbj.setCell hblk.1 _⟩
          rw [Hstep.out, Hone.out, ← or_mask z ((p + j) % 8) hz.1 hz.2 (by omega)]
          exact Hset.out _ (by rw [or_mask z ((p + j) % 8) hz.1 hz.2 (by omega)]; exact u8_wf _ (Hbyte.out 1 (by decide)))
        case measure => simp [intOf]; omega
      · have hzero : v / 2 ^ (n - 1 - j) % 2 = 0 := by omega
        have hB : (bits BinOp.and IntKind.i64 ((v : Int) / 2 ^ (n - 1 - j)) 1 == 1) = false := by rw [hbit, hzero]; rfl
        have Hzero := Lib.hid hzero
        clear hone hbit hlt2 hzero
        go_wp2
        go_roundw
        case rel =>
          go_light
          refine ⟨j + 1, by omega, by go_num, ?_, hbj.setCell hblk.1 _⟩
          rw [Hstep.out, Hzero.out, ← andNot_mask z ((p + j) % 8) hz.1 hz.2 (by omega)]
          exact Hset.out _ (by rw [andNot_mask z ((p + j) % 8) hz.1 hz.2 (by omega)]; exact u8_wf _ (Hbyte.out 0 (by decide)))
        case measure => simp [intOf]; omega
    · obtain rfl : j = n := by omega
      go_wp2
      go_end0
      exact ⟨rfl, hmj, hbj⟩

end Go.Proofs.YtkhcfmnebflgkaaDoor
/-
  An empty slice, and bytes.Clone; the answer of a function that returns bytes and an error.
-/
namespace Go.Proofs.YtkhcfmnebflgkaaDoor
open Go Go.RowKit

theorem Mk.empty (k : IntKind) (E B : Nat) (w : World) (hB : B ≤ w.heap.size) : Mk k E B (w.alloc (.cells #[] E)) (.slice (some ⟨w.heap.size, 0, none⟩) 0 0) 0 [] := by
  refine ⟨?_, by omega, by simp⟩
  have := World.ownsRow_lit (base := B) (e := E) (size := 1) w #[] 0 hB (by unfold maxLen; omega) (by simp)
  simpa using this

set_option maxHeartbeats 400000 in
theorem clone_any (B : Nat) (a : Option Addr) (n cap : Nat) (zs : List Int) (w : World) (hs : Sl .u8 w a n zs) (hc : a = none → cap = 0) (hB : B ≤ w.heap.size) :
    Calls Tryd.prog 68 #[.slice a n cap] w fun e w' => ∃ a' cap', e = .returned (.slice a' n cap') ∧ (a' = none → cap' = 0) ∧ Mk .u8 5 B w' (.slice a' n cap') n zs ∧ Below B w w' := by
  have hr := hs.reach
  have hlen := hs.len
  cases a with
  | none =>
    obtain rfl := hc rfl
    have hn : n = 0 := by
      rcases Nat.eq_zero_or_pos n with h0 | h0
      · exact h0
      · obtain ⟨b, off, e⟩ := hs.head h0; cases e
    subst hn
    obtain rfl : zs = [] := List.eq_nil_of_length_eq_zero hlen
    have he := Lib.run_eql_slice_nil (P := Tryd.prog)
    go_enter Tryd.func68, Tryd.ntmps68
    go_wp2
    go_ret
    exact ⟨none, 0, rfl, fun _ => rfl, Mk.nil _ _ _ _, Below.refl _ _⟩
  | some x =>
    have he := Lib.run_eql_slice_nil (P := Tryd.prog)
    have Hs := Lib.hid hs
    clear hs hc hlen
    go_enter Tryd.func68, Tryd.ntmps68
    go_wp2_with (at_builtin; refine wpList_append_mk rfl _ _ 26 rfl .u8 5 B 1 Tryd.underlying26 info5 (.slice (some ⟨w.heap.size, 0, none⟩) 0 0) 0 [] rfl (Mk.empty .u8 5 B w hB) (some x) n cap zs rfl (Hs.out.alloc _) (fun h => by cases h) (by omega) (by omega) (by simp; omega) ?_; intro ao cap' w' hmk hbe hn)
    go_ret
    rw [Nat.zero_add] at hmk
    exact ⟨ao, cap', rfl, fun h => (hn h).2, hmk, ((Below.refl _ _).alloc hB _).trans hbe⟩

/-- the answer of a function that returns bytes and an error -/
def RetBytes (B : Nat) (zs : List Int) (err : Int) (w : World) (e : Ending) (w' : World) : Prop :=
  ∃ a n cap, e = .returned (.tuple #[.slice a n cap, .int .i64 err]) ∧ (a = none → cap = 0) ∧ Mk .u8 5 B w' (.slice a n cap) n zs ∧ Below B w w'

end Go.Proofs.YtkhcfmnebflgkaaDoor
/-
  Packing, as plain functions.
-/
namespace Go.Proofs.YtkhcfmnebflgkaaDoor
open Go Go.RowKit

/-- the width at a place -/
def wid (ws : List Int) (i : Nat) : Nat := (ws.getD i 0).toNat
/-- the first i widths together -/
def sumTo (ws : List Int) : Nat → Nat
  | 0 => 0
  | i + 1 => sumTo ws i + wid ws i
/-- the first i numbers written one after the other -/
def packTo (ws vs zs : List Int) : Nat → List Int
  | 0 => zs
  | i + 1 => putTo (packTo ws vs zs i) (sumTo ws i) (wid ws i) (wid vs i) (wid ws i)
def fitsAt (ws vs : List Int) (i : Nat) : Bool := fitsB (ws.getD i 0) (vs.getD i 0)
/-- the first n numbers fit -/
def fitsTo (ws vs : List Int) : Nat → Bool
  | 0 => true
  | i + 1 => fitsTo ws vs i && fitsAt ws vs i
def widthAt (ws : List Int) (i : Nat) : Bool := decide (0 ≤ ws.getD i 0 ∧ ws.getD i 0 ≤ 32)
def widthTo (ws : List Int) : Nat → Bool
  | 0 => true
  | i + 1 => widthTo ws i && widthAt ws i

theorem fitsTo_all {ws vs : List Int} : ∀ {n : Nat}, fitsTo ws vs n = true → ∀ i, i < n → fitsAt ws vs i = true
  | n + 1, h, i, hi => by
    simp only [fitsTo, Bool.and_eq_true] at h
    by_cases e : i = n
    · subst e; exact h.2
    · exact fitsTo_all h.1 i (by omega)
theorem fitsTo_no {ws vs : List Int} : ∀ {n i : Nat}, i < n → fitsAt ws vs i = false → fitsTo ws vs n = false
  | n + 1, i, hi, h => by
    simp only [fitsTo, Bool.and_eq_false_iff]
    by_cases e : i = n
    · subst e; exact .inr h
    · exact .inl (fitsTo_no (by omega) h)
theorem widthTo_all {ws : List Int} : ∀ {n : Nat}, widthTo ws n = true → ∀ i, i < n → widthAt ws i = true
  | n + 1, h, i, hi => by
    simp only [widthTo, Bool.and_eq_true] at h
    by_cases e : i = n
    · subst e; exact h.2
    · exact widthTo_all h.1 i (by omega)
theorem widthTo_no {ws : List Int} : ∀ {n i : Nat}, i < n → widthAt ws i = false → widthTo ws n = false
  | n + 1, i, hi, h => by
    simp only [widthTo, Bool.and_eq_false_iff]
    by_cases e : i = n
    · subst e; exact .inr h
    · exact .inl (widthTo_no (by omega) h)
theorem widthAt_yes {ws : List Int} {i : Nat} (h : widthAt ws i = true) : 0 ≤ ws.getD i 0 ∧ ws.getD i 0 ≤ 32 ∧ ws.getD i 0 = (wid ws i : Nat) ∧ wid ws i ≤ 32 := by
  unfold widthAt at h; unfold wid; simp only [decide_eq_true_eq] at h; omega
theorem fitsAt_yes {ws vs : List Int} {i : Nat} (h : fitsAt ws vs i = true) :
    widthAt ws i = true ∧ 0 ≤ vs.getD i 0 ∧ vs.getD i 0 = (wid vs i : Nat) ∧ wid vs i < 2 ^ wid ws i := by
  unfold fitsAt fitsB at h; simp only [decide_eq_true_eq] at h
  refine ⟨by unfold widthAt; simp only [decide_eq_true_eq]; omega, h.2.2.1, by unfold wid; omega, ?_⟩
  unfold wid
  have h3 := h.2.2.2
  have e : ((2 : Int) ^ (ws.getD i 0).toNat) = ((2 ^ (ws.getD i 0).toNat : Nat) : Int) := by simp
  rw [e] at h3
  omega
theorem fitsTo_width {ws vs : List Int} : ∀ {n : Nat}, fitsTo ws vs n = true → widthTo ws n = true
  | 0, _ => rfl
  | n + 1, h => by
    simp only [fitsTo, Bool.and_eq_true] at h
    simp only [widthTo, Bool.and_eq_true]
    exact ⟨fitsTo_width h.1, (fitsAt_yes h.2).1⟩
theorem sumTo_le {ws : List Int} : ∀ {n : Nat}, widthTo ws n = true → sumTo ws n ≤ 32 * n
  | 0, _ => by simp [sumTo]
  | n + 1, h => by
    simp only [widthTo, Bool.and_eq_true] at h
    have a := sumTo_le h.1
    have b := (widthAt_yes h.2).2.2.2
    simp only [sumTo]; omega
theorem sumTo_mono (ws : List Int) : ∀ {i n : Nat}, i ≤ n → sumTo ws i ≤ sumTo ws n
  | i, 0, h => by obtain rfl : i = 0 := by omega
                  exact Nat.le_refl _
  | i, n + 1, h => by
    by_cases e : i = n + 1
    · subst e; exact Nat.le_refl _
    · have := sumTo_mono ws (show i ≤ n by omega)
      simp only [sumTo]; omega
theorem packTo_length (ws vs zs : List Int) : ∀ n, (packTo ws vs zs n).length = zs.length
  | 0 => rfl
  | n + 1 => by simp only [packTo]; rw [putTo_length, packTo_length ws vs zs n]
theorem packTo_bytes {ws vs zs : List Int} (h : Bytes zs) : ∀ n, Bytes (packTo ws vs zs n)
  | 0 => h
  | n + 1 => by simp only [packTo]; exact putTo_bytes (packTo_bytes h n) _ _ _ _

/-- what Pack answers -/
def packE (ws vs : List Int) : Int := if ws.length ≠ vs.length ∨ 256 < ws.length then 2 else if fitsTo ws vs ws.length = true then 0 else 3
def packV (ws vs : List Int) : List Int :=
  if ws.length ≠ vs.length ∨ 256 < ws.length then [] else if fitsTo ws vs ws.length = true then packTo ws vs (List.replicate ((sumTo ws ws.length + 7) / 8) 0) ws.length else []
theorem pack_size {ws vs : List Int} (h : ws.length ≠ vs.length ∨ 256 < ws.length) : packV ws vs = [] ∧ packE ws vs = 2 := by
  unfold packV packE; exact ⟨if_pos h, if_pos h⟩
theorem pack_fits {ws vs : List Int} {n : Nat} (h1 : ws.length = n) (h2 : vs.length = n) (h3 : n ≤ 256) (h : fitsTo ws vs n = true) :
    packV ws vs = packTo ws vs (List.replicate ((sumTo ws n + 7) / 8) 0) n ∧ packE ws vs = 0 := by
  subst h1
  unfold packV packE
  have hc : ¬ (ws.length ≠ vs.length ∨ 256 < ws.length) := by omega
  exact ⟨(if_neg hc).trans (if_pos h), (if_neg hc).trans (if_pos h)⟩
theorem pack_range {ws vs : List Int} {n : Nat} (h1 : ws.length = n) (h2 : vs.length = n) (h3 : n ≤ 256) (h : fitsTo ws vs n = false) : packV ws vs = [] ∧ packE ws vs = 3 := by
  subst h1
  unfold packV packE
  have hc : ¬ (ws.length ≠ vs.length ∨ 256 < ws.length) := by omega
  have hf : ¬ fitsTo ws vs ws.length = true := by simp [h]
  exact ⟨(if_neg hc).trans (if_neg hf), (if_neg hc).trans (if_neg hf)⟩
end Go.Proofs.YtkhcfmnebflgkaaDoor
/-
  What Pack and what it calls return.
-/
namespace Go.Proofs.YtkhcfmnebflgkaaDoor
open Go Go.RowKit

theorem wholeBytes_any (t : Nat) (w : World) (h : t ≤ 1000000) :
    Calls Tryd.prog 71 #[.int .i64 t] w fun e w' => e = .returned (.int .i64 ((t + 7) / 8 : Nat)) ∧ w = w' := by
  go_enter Tryd.func71, Tryd.ntmps71
  go_wp2
  go_ret
  exact ⟨ret_int (by omega), rfl⟩

set_option maxHeartbeats 400000 in
theorem sum_any (a : Option Addr) (n cap : Nat) (ws : List Int) (w : World) (hs : Sl .i64 w a n ws) (hn : n ≤ 256) (hw : widthTo ws n = true) :
    Calls Tryd.prog 72 #[.slice a n cap] w fun e w' => e = .returned (.int .i64 (sumTo ws n : Nat)) ∧ w = w' := by
  have Hs := Lib.hid hs
  have Hw := Lib.hid hw
  clear hs hw
  go_enter Tryd.func72, Tryd.ntmps72
  go_wp2
  go_loop [3, 8] (fun v k => ∃ j : Nat, j ≤ n ∧ k = .int .i64 j ∧ v = .int .i64 (sumTo ws j : Nat)) (fun _ k => n - (intOf k).toNat)
  case atStart => exact ⟨0, by omega, by simp, by simp [sumTo]⟩
  case round =>
    obtain ⟨j, hj, rfl, rfl⟩ := hrel
    by_cases hlt : j < n
    · obtain ⟨b, off, rfl⟩ := Hs.out.head (by omega)
      have hc := Hs.out.at hlt
      have hx := widthAt_yes (widthTo_all Hw.out j hlt)
      rw [hx.2.2.1] at hc
      have hle := sumTo_mono ws (show j ≤ n by omega)
      have hle2 := sumTo_le Hw.out
      have HS : Hid (sumTo ws (j + 1) = sumTo ws j + wid ws j) := rfl
      have hx2 := hx.2.2.2
      clear hx
      generalize sumTo ws j = s at HS hle
      generalize wid ws j = x at HS hc hx2
      go_wp2
      go_round
      case rel => exact ⟨j + 1, by omega, by go_num, int_eq (by rw [HS.out]; omega)⟩
      case measure => simp [intOf]; omega
    · obtain rfl : j = n := by omega
      go_wp2
      go_ret
      exact ⟨rfl, rfl⟩

set_option maxHeartbeats 800000 in
theorem Pack_any (a b : Option Addr) (n cap m cap' : Nat) (ws vs : List Int) (w : World) (hs : Sl .i64 w a n ws) (ht : Sl .i64 w b m vs) :
    Calls Tryd.prog 61 #[.slice a n cap, .slice b m cap'] w (RetBytes w.heap.size (packV ws vs) (packE ws vs) w) := by
  have hl := hs.reach
  have hl2 := ht.reach
  have hz := hs.len
  have hz2 := ht.len
  have hnil : ∀ w' err, w = w' → RetBytes w.heap.size [] err w (.returned (.tuple #[.slice none 0 0, .int .i64 err])) w' := by
    rintro w' err rfl; exact ⟨none, 0, 0, rfl, fun _ => rfl, Mk.nil _ _ _ _, Below.refl _ _⟩
  have Hnil := Lib.hid hnil
  clear hnil
  by_cases hr : n ≠ m ∨ 256 < n
  · obtain ⟨hv, he⟩ := pack_size (ws := ws) (vs := vs) (by omega)
    rw [hv, he]
    clear hv he hz hz2
    by_cases hne : n = m
    · subst hne
      have h2 : 256 < n := by omega
      clear hr
      go_enter Tryd.func61, Tryd.ntmps61
      go_wp2
      go_ret2
      exact Hnil.out _ _ rfl
    · clear hr
      go_enter Tryd.func61, Tryd.ntmps61
      go_wp2
      go_ret2
      exact Hnil.out _ _ rfl
  · obtain rfl : n = m := by omega
    have hn : n ≤ 256 := by omega
    have HV := Lib.hid (fun h => pack_fits hz hz2 hn h)
    have HV2 := Lib.hid (fun h => pack_range hz hz2 hn h)
    have Hs := Lib.hid hs
    have Ht := Lib.hid ht
    clear hr hs ht hz hz2
    generalize packV ws vs = out at HV HV2
    generalize packE ws vs = err at HV HV2
    go_enter Tryd.func61, Tryd.ntmps61
    go_wp2
    go_loop [24] (fun k => ∃ j : Nat, j ≤ n ∧ k = .int .i64 j ∧ fitsTo ws vs j = true) (fun k => n - (intOf k).toNat)
    case atStart => exact ⟨0, by omega, by simp, rfl⟩
    case round =>
      obtain ⟨j, hj, rfl, hfit⟩ := hrel
      have Hfit := Lib.hid hfit
      clear hfit
      by_cases hlt : j < n
      · obtain ⟨ba, oa, rfl⟩ := Hs.out.head (by omega)
        obtain ⟨bb, ob, rfl⟩ := Ht.out.head (by omega)
        have hca := Hs.out.at hlt
        have hcb := Ht.out.at hlt
        have hiw := Hs.out.i64 j
        have hiv := Ht.out.i64 j
        have HF : Hid (fitsTo ws vs (j + 1) = (fitsTo ws vs j && fitsB (ws.getD j 0) (vs.getD j 0))) := rfl
        have HF2 : Hid (fitsB (ws.getD j 0) (vs.getD j 0) = false → fitsTo ws vs n = false) := fun h => fitsTo_no hlt h
        generalize ws.getD j 0 = x at hca hiw HF HF2
        generalize vs.getD j 0 = y at hcb hiv HF HF2
        by_cases hft : fitsB x y = true
        · go_wp2_with (go_at_call 70; refine (fits_any _ _ _).mono ?_; rintro e w' ⟨rfl, rfl⟩)
          go_round
          case rel => exact ⟨j + 1, by omega, by go_num, by rw [HF.out, Hfit.out, hft]; rfl⟩
          case measure => simp [intOf]; omega
        · have hft2 : fitsB x y = false := by simpa using hft
          clear hft
          obtain ⟨e1, e2⟩ := HV2.out (HF2.out hft2)
          subst e1; subst e2
          go_wp2_with (go_at_call 70; refine (fits_any _ _ _).mono ?_; rintro e w' ⟨rfl, rfl⟩)
          go_ret2
          exact Hnil.out _ _ rfl
      · obtain rfl : j = n := by omega
        obtain ⟨e1, e2⟩ := HV.out Hfit.out
        subst e1; subst e2
        have hw := fitsTo_width Hfit.out
        have hsl := sumTo_le hw
        have Hw := Lib.hid hw
        clear hw HV HV2
        go_wp2_with (first | (go_at_call 72; refine (sum_any _ _ _ ws _ Hs.out hn Hw.out).mono ?_; rintro e w' ⟨rfl, rfl⟩) | (go_at_call 71; refine (wholeBytes_any _ _ (by omega)).mono ?_; rintro e w' ⟨rfl, rfl⟩) | (at_make; refine wpList_make_mk rfl _ _ 26 rfl .u8 5 w.heap.size 1 Tryd.underlying26 info5 .i64 .i64 _ _ ((sumTo ws j + 7) / 8) rfl rfl rfl rfl (by omega) (by omega) (Nat.le_refl _) rfl ?_; intro w1 hm1 hb1; have Hm1 := Lib.hid hm1; clear hm1))
        have Hb1 := Lib.hid hb1
        clear hb1
        obtain ⟨bz, HZ⟩ : ∃ l, Hid (l = List.replicate ((sumTo ws j + 7) / 8) (0 : Int)) := ⟨_, rfl⟩
        rw [← HZ.out] at Hm1
        go_loopw [9, 43] (fun t k wr => ∃ i : Nat, i ≤ j ∧ k = .int .i64 i ∧ t = .int .i64 (sumTo ws i : Nat) ∧ Mk .u8 5 w.heap.size wr (.slice (some ⟨w.heap.size, 0, none⟩) ((sumTo ws j + 7) / 8) ((sumTo ws j + 7) / 8)) ((sumTo ws j + 7) / 8) (packTo ws vs bz i) ∧ Below w.heap.size w wr) (fun _ k _ => j - (intOf k).toNat)
        case atStart => exact ⟨0, by omega, by simp, by simp [sumTo], Hm1.out, Hb1.out⟩
        case round =>
          obtain ⟨i, hi, rfl, rfl, hmi, hbi⟩ := hrel
          have Hmi := Lib.hid hmi
          have Hbi := Lib.hid hbi
          clear hmi hbi
          by_cases hlt : i < j
          · have Hs1 := Lib.hid (Hs.out.keep Hbi.out)
            have Ht1 := Lib.hid (Ht.out.keep Hbi.out)
            obtain ⟨ba, oa, rfl⟩ := Hs.out.head (by omega)
            obtain ⟨bb, ob, rfl⟩ := Ht.out.head (by omega)
            have hca := Hs1.out.at hlt
            have hcb := Ht1.out.at hlt
            have hx := fitsAt_yes (fitsTo_all Hfit.out i hlt)
            have hxw := widthAt_yes hx.1
            rw [hxw.2.2.1] at hca
            rw [hx.2.2.1] at hcb
            have Hv := Lib.hid hx.2.2.2
            have hw2 := hxw.2.2.2
            have hle := sumTo_mono ws (show i + 1 ≤ j by omega)
            have HS : Hid (sumTo ws (i + 1) = sumTo ws i + wid ws i) := rfl
            rw [HS.out] at hle
            have HP : Hid (packTo ws vs bz (i + 1) = putTo (packTo ws vs bz i) (sumTo ws i) (wid ws i) (wid vs i) (wid ws i)) := rfl
            clear hx hxw
            go_wp2_with (go_at_call 73; refine (put_any w.heap.size _ _ _ _ _ _ (packTo ws vs bz i) _ Hmi.out (by omega) (by omega) Hv.out).mono ?_; rintro e w2 ⟨rfl, hm2, hb2⟩)
            go_roundw
            case rel => exact ⟨i + 1, by omega, by go_num, int_eq (by rw [HS.out]; omega), by rw [HP.out]; exact hm2, Hbi.out.trans hb2⟩
            case measure => simp [intOf]; omega
          · obtain rfl : i = j := by omega
            go_wp2
            go_ret2
            rw [← HZ.out]
            exact ⟨_, _, _, rfl, (fun h => by cases h), Hmi.out, Hbi.out⟩
end Go.Proofs.YtkhcfmnebflgkaaDoor
/-
  The document's own functions of layer 5 (radiolinkref05): in, Valid, set.
-/
namespace Go.Proofs.YtkhcfmnebflgkaaDoor
open Go Go.RowKit

def inB (n m : Int) : Bool := decide (0 ≤ n ∧ n ≤ m)
theorem in05_any (n m : Int) (w : World) (b : -9223372036854775808 ≤ n ∧ n ≤ 9223372036854775807) :
    Calls Tryd.prog 65 #[.int .i64 n, .int .i64 m] w fun e w' => e = .returned (.bool (inB n m)) ∧ w = w' := by
  by_cases h0 : 0 ≤ n
  · go_enter Tryd.func65, Tryd.ntmps65
    go_wp2
    go_ret
    exact ⟨ret_bool (by unfold inB; simp [h0]), rfl⟩
  · go_enter Tryd.func65, Tryd.ntmps65
    go_wp2
    go_ret
    exact ⟨ret_bool (by unfold inB; simp; omega), rfl⟩

/-- the document's own test, in its order -/
def rValidB (h : Hd) : Bool :=
  (h.kind == 1 || h.kind == 2) && inB h.tos 255 && inB h.ttl 255 && inB h.id 65535 && inB h.fromPort 65535 && inB h.toPort 65535 && inB h.check 65535 && inB h.fixed 1 && inB h.frm 4294967295 && inB h.to 4294967295 &&
    (if h.kind == 1 then h.marker == 0 && h.type == 0 && h.seq == 0 && h.time == 0 && h.source == 0
      else inB h.marker 1 && inB h.type 127 && inB h.seq 65535 && inB h.time 4294967295 && inB h.source 4294967295)
theorem rValidB_eq (h : Hd) : rValidB h = validB h := by
  apply Bool.eq_iff_iff.2
  unfold rValidB validB inB
  by_cases k1 : h.kind = 1
  · simp [k1]; omega
  · by_cases k2 : h.kind = 2
    · simp [k2]; omega
    · simp [k1, k2]

set_option maxRecDepth 100000 in
set_option maxHeartbeats 3200000 in
theorem rValid_any (h : Hd) (w : World) (b : h.Fits) :
    Calls Tryd.prog 43 #[(.agg #[.int .i64 h.kind, .int .i64 h.tos, .int .i64 h.id, .int .i64 h.fixed, .int .i64 h.ttl, .int .i64 h.frm, .int .i64 h.to, .int .i64 h.fromPort, .int .i64 h.toPort, .int .i64 h.check, .int .i64 h.marker, .int .i64 h.type, .int .i64 h.seq, .int .i64 h.time, .int .i64 h.source])] w fun e w' => e = .returned (.bool (validB h)) ∧ Below w.heap.size w w' := by
  rw [← rValidB_eq]
  obtain ⟨x_kind, x_tos, x_id, x_fixed, x_ttl, x_frm, x_to, x_fromPort, x_toPort, x_check, x_marker, x_type, x_seq, x_time, x_source⟩ := h
  obtain ⟨f_kind, f_tos, f_id, f_fixed, f_ttl, f_frm, f_to, f_fromPort, f_toPort, f_check, f_marker, f_type, f_seq, f_time, f_source⟩ := b
  unfold rValidB
  simp only at *
  have hB := Lib.hid ((Below.refl w.heap.size w).alloc (Nat.le_refl _) (.cells #[.int .i64 x_kind, .int .i64 x_tos, .int .i64 x_id, .int .i64 x_fixed, .int .i64 x_ttl, .int .i64 x_frm, .int .i64 x_to, .int .i64 x_fromPort, .int .i64 x_toPort, .int .i64 x_check, .int .i64 x_marker, .int .i64 x_type, .int .i64 x_seq, .int .i64 x_time, .int .i64 x_source] 23))
  have I_tos := Lib.hid (fun W => in05_any x_tos 255 W f_tos)
  generalize inB x_tos 255 = c_tos at I_tos ⊢
  have I_ttl := Lib.hid (fun W => in05_any x_ttl 255 W f_ttl)
  generalize inB x_ttl 255 = c_ttl at I_ttl ⊢
  have I_id := Lib.hid (fun W => in05_any x_id 65535 W f_id)
  generalize inB x_id 65535 = c_id at I_id ⊢
  have I_fromPort := Lib.hid (fun W => in05_any x_fromPort 65535 W f_fromPort)
  generalize inB x_fromPort 65535 = c_fromPort at I_fromPort ⊢
  have I_toPort := Lib.hid (fun W => in05_any x_toPort 65535 W f_toPort)
  generalize inB x_toPort 65535 = c_toPort at I_toPort ⊢
  have I_check := Lib.hid (fun W => in05_any x_check 65535 W f_check)
  generalize inB x_check 65535 = c_check at I_check ⊢
  have I_fixed := Lib.hid (fun W => in05_any x_fixed 1 W f_fixed)
  generalize inB x_fixed 1 = c_fixed at I_fixed ⊢
  have I_frm := Lib.hid (fun W => in05_any x_frm 4294967295 W f_frm)
  generalize inB x_frm 4294967295 = c_frm at I_frm ⊢
  have I_to := Lib.hid (fun W => in05_any x_to 4294967295 W f_to)
  generalize inB x_to 4294967295 = c_to at I_to ⊢
  clear f_tos f_ttl f_id f_fromPort f_toPort f_check f_fixed f_frm f_to f_kind
  by_cases k1 : x_kind = 1
  · subst k1
    clear f_marker f_type f_seq f_time f_source
    go_enter Tryd.func43, Tryd.ntmps43
    go_wp2_with (first
      | (go_at_call 65; ((with_reducible refine (I_tos.out _).mono ?_); rintro e w' ⟨rfl, rfl⟩))
      | (go_at_call 65; ((with_reducible refine (I_ttl.out _).mono ?_); rintro e w' ⟨rfl, rfl⟩))
      | (go_at_call 65; ((with_reducible refine (I_id.out _).mono ?_); rintro e w' ⟨rfl, rfl⟩))
      | (go_at_call 65; ((with_reducible refine (I_fromPort.out _).mono ?_); rintro e w' ⟨rfl, rfl⟩))
      | (go_at_call 65; ((with_reducible refine (I_toPort.out _).mono ?_); rintro e w' ⟨rfl, rfl⟩))
      | (go_at_call 65; ((with_reducible refine (I_check.out _).mono ?_); rintro e w' ⟨rfl, rfl⟩))
      | (go_at_call 65; ((with_reducible refine (I_fixed.out _).mono ?_); rintro e w' ⟨rfl, rfl⟩))
      | (go_at_call 65; ((with_reducible refine (I_frm.out _).mono ?_); rintro e w' ⟨rfl, rfl⟩))
      | (go_at_call 65; ((with_reducible refine (I_to.out _).mono ?_); rintro e w' ⟨rfl, rfl⟩))
      | fail)
    all_goals go_ret
    all_goals refine ⟨ret_bool ?_, (Below.refl _ _).alloc (Nat.le_refl _) _⟩
    all_goals clear I_tos I_id I_fixed I_ttl I_frm I_to I_fromPort I_toPort I_check hB
    all_goals first | (simp; done) | simp_all
  · by_cases k2 : x_kind = 2
    · subst k2
      have I_marker := Lib.hid (fun W => in05_any x_marker 1 W f_marker)
      generalize inB x_marker 1 = c_marker at I_marker ⊢
      have I_type := Lib.hid (fun W => in05_any x_type 127 W f_type)
      generalize inB x_type 127 = c_type at I_type ⊢
      have I_seq := Lib.hid (fun W => in05_any x_seq 65535 W f_seq)
      generalize inB x_seq 65535 = c_seq at I_seq ⊢
      have I_time := Lib.hid (fun W => in05_any x_time 4294967295 W f_time)
      generalize inB x_time 4294967295 = c_time at I_time ⊢
      have I_source := Lib.hid (fun W => in05_any x_source 4294967295 W f_source)
      generalize inB x_source 4294967295 = c_source at I_source ⊢
      clear f_marker f_type f_seq f_time f_source
      go_enter Tryd.func43, Tryd.ntmps43
      go_wp2_with (first
        | (go_at_call 65; ((with_reducible refine (I_tos.out _).mono ?_); rintro e w' ⟨rfl, rfl⟩))
        | (go_at_call 65; ((with_reducible refine (I_ttl.out _).mono ?_); rintro e w' ⟨rfl, rfl⟩))
        | (go_at_call 65; ((with_reducible refine (I_id.out _).mono ?_); rintro e w' ⟨rfl, rfl⟩))
        | (go_at_call 65; ((with_reducible refine (I_fromPort.out _).mono ?_); rintro e w' ⟨rfl, rfl⟩))
        | (go_at_call 65; ((with_reducible refine (I_toPort.out _).mono ?_); rintro e w' ⟨rfl, rfl⟩))
        | (go_at_call 65; ((with_reducible refine (I_check.out _).mono ?_); rintro e w' ⟨rfl, rfl⟩))
        | (go_at_call 65; ((with_reducible refine (I_fixed.out _).mono ?_); rintro e w' ⟨rfl, rfl⟩))
        | (go_at_call 65; ((with_reducible refine (I_frm.out _).mono ?_); rintro e w' ⟨rfl, rfl⟩))
        | (go_at_call 65; ((with_reducible refine (I_to.out _).mono ?_); rintro e w' ⟨rfl, rfl⟩))
        | (go_at_call 65; ((with_reducible refine (I_marker.out _).mono ?_); rintro e w' ⟨rfl, rfl⟩))
        | (go_at_call 65; ((with_reducible refine (I_type.out _).mono ?_); rintro e w' ⟨rfl, rfl⟩))
        | (go_at_call 65; ((with_reducible refine (I_seq.out _).mono ?_); rintro e w' ⟨rfl, rfl⟩))
        | (go_at_call 65; ((with_reducible refine (I_time.out _).mono ?_); rintro e w' ⟨rfl, rfl⟩))
        | (go_at_call 65; ((with_reducible refine (I_source.out _).mono ?_); rintro e w' ⟨rfl, rfl⟩))
        | fail)
      all_goals go_ret
      all_goals refine ⟨ret_bool ?_, (Below.refl _ _).alloc (Nat.le_refl _) _⟩
      all_goals clear I_tos I_id I_fixed I_ttl I_frm I_to I_fromPort I_toPort I_check I_marker I_type I_seq I_time I_source hB
      all_goals first | (simp; done) | simp_all
    · have e1 : (x_kind == 1) = false := by simpa using k1
      have e2 : (x_kind == 2) = false := by simpa using k2
      rw [e1, e2]
      simp only [Bool.or_false, Bool.false_and]
      go_enter Tryd.func43, Tryd.ntmps43
      go_wp2_with fail
      go_ret
      exact ⟨rfl, hB.out⟩
end Go.Proofs.YtkhcfmnebflgkaaDoor
/-
  The program's functions of layer 5: within, validBase, validRtp, Valid.
-/
namespace Go.Proofs.YtkhcfmnebflgkaaDoor
open Go Go.RowKit

/-- all numbers are from 0 to a greatest one -/
def witB (m : Int) (zs : List Int) : Bool := zs.all fun z => decide (0 ≤ z ∧ z ≤ m)
theorem witB_getD {m : Int} {zs : List Int} (h : ∀ i, i < zs.length → 0 ≤ zs.getD i 0 ∧ zs.getD i 0 ≤ m) : witB m zs = true := by
  unfold witB
  rw [List.all_eq_true]
  intro z hz
  obtain ⟨i, hi, rfl⟩ := List.mem_iff_getElem.1 hz
  have := h i hi
  rw [List.getD_eq_getElem?_getD, List.getElem?_eq_getElem hi] at this
  simpa using this
theorem witB_not {m : Int} {zs : List Int} (i : Nat) (hi : i < zs.length) (h : zs.getD i 0 < 0 ∨ m < zs.getD i 0) : witB m zs = false := by
  cases e : witB m zs with
  | false => rfl
  | true =>
    unfold witB at e
    rw [List.all_eq_true] at e
    have := of_decide_eq_true (e _ (getD_mem hi))
    omega

set_option maxHeartbeats 800000 in
theorem within_any (m : Int) (a : Option Addr) (n cap : Nat) (zs : List Int) (w : World) (hs : Sl .i64 w a n zs) (_b : -9223372036854775808 ≤ m ∧ m ≤ 9223372036854775807) :
    Calls Tryd.prog 63 #[.int .i64 m, .slice a n cap] w fun e w' => e = .returned (.bool (witB m zs)) ∧ w = w' := by
  have hr := hs.reach
  have hl := hs.len
  have Hs := Lib.hid hs
  have HL := Lib.hid hl
  have HY := Lib.hid (@witB_getD m zs)
  have HN := Lib.hid (@witB_not m zs)
  rw [hl] at HY HN
  clear hs hl
  go_enter Tryd.func63, Tryd.ntmps63
  go_wp2
  go_loopw [9] (fun i wr => ∃ t : Nat, t ≤ n ∧ i = .int .i64 (t : Int) ∧ Hid (∀ i, i < t → 0 ≤ zs.getD i 0 ∧ zs.getD i 0 ≤ m) ∧ w = wr) (fun i _ => n - (intOf i).toNat)
  case atStart => exact ⟨0, by omega, by simp, Lib.hid (fun i hi => by omega), rfl⟩
  case round =>
    obtain ⟨t, ht, rfl, HT, rfl⟩ := hrel
    by_cases hlt : t < n
    · obtain ⟨g, off, rfl⟩ := Hs.out.head (by omega)
      have c0 := Hs.out.at hlt
      have z0 := Hs.out.i64 t
      have HT2 : Hid ((0 ≤ zs.getD t 0 ∧ zs.getD t 0 ≤ m) → ∀ i, i < t + 1 → 0 ≤ zs.getD i 0 ∧ zs.getD i 0 ≤ m) := Lib.hid (fun hx i hi => by
        rcases Nat.lt_or_ge i t with h | h
        · exact HT.out i h
        · obtain rfl : i = t := by omega
          exact hx)
      have HN2 := Lib.hid (HN.out t hlt)
      have hI : (t : Int) < (n : Int) := by omega
      clear HT
      generalize zs.getD t 0 = x at c0 z0 HT2 HN2
      by_cases h0 : 0 ≤ x
      · by_cases h1 : x ≤ m
        · go_wp2
          go_roundw
          case rel => exact ⟨t + 1, by omega, by go_num, Lib.hid (HT2.out ⟨h0, h1⟩), trivial⟩
          case measure => simp [intOf] <;> omega
        · go_wp2
          go_ret
          exact ⟨ret_bool (HN2.out (by omega)).symm, rfl⟩
      · go_wp2
        go_ret
        exact ⟨ret_bool (HN2.out (by omega)).symm, rfl⟩
    · obtain rfl : t = n := by omega
      go_wp2
      go_ret
      exact ⟨ret_bool (HY.out HT.out).symm, rfl⟩

theorem wf_fit {x : Int} (b : -9223372036854775808 ≤ x ∧ x ≤ 9223372036854775807) : (Lit.int .i64 x).wf = true := by
  simpa [Lit.wf, IntKind.min, IntKind.max, IntKind.signed, IntKind.bits] using b
/-- .. of a literal's row -/
theorem within_1 (m x : Int) (B : Nat) (W : World) (hB : B = W.heap.size) (b : -9223372036854775808 ≤ m ∧ m ≤ 9223372036854775807) (bx : (Lit.int .i64 x).wf = true) :
    Calls Tryd.prog 63 #[.int .i64 m, .slice (some ⟨B, 0, none⟩) 1 1] (W.alloc (.cells #[.int .i64 x] 3)) fun e w' => e = .returned (.bool (witB m [x])) ∧ W.alloc (.cells #[.int .i64 x] 3) = w' :=
  within_any m _ 1 1 [x] _ (Sl.lit .i64 W [x] 3 1 B hB rfl (by omega) (fun z hz => by simp at hz; subst hz; exact bx)) b
theorem within_2 (m x y : Int) (B : Nat) (W : World) (hB : B = W.heap.size) (b : -9223372036854775808 ≤ m ∧ m ≤ 9223372036854775807) (bx : (Lit.int .i64 x).wf = true) (by' : (Lit.int .i64 y).wf = true) :
    Calls Tryd.prog 63 #[.int .i64 m, .slice (some ⟨B, 0, none⟩) 2 2] (W.alloc (.cells #[.int .i64 x, .int .i64 y] 3)) fun e w' => e = .returned (.bool (witB m [x, y])) ∧ W.alloc (.cells #[.int .i64 x, .int .i64 y] 3) = w' :=
  within_any m _ 2 2 [x, y] _ (Sl.lit .i64 W [x, y] 3 2 B hB rfl (by omega) (fun z hz => by simp at hz; rcases hz with rfl | rfl <;> assumption)) b
theorem within_4 (m x y u v : Int) (B : Nat) (W : World) (hB : B = W.heap.size) (b : -9223372036854775808 ≤ m ∧ m ≤ 9223372036854775807) (bx : (Lit.int .i64 x).wf = true) (by' : (Lit.int .i64 y).wf = true) (bu : (Lit.int .i64 u).wf = true) (bv : (Lit.int .i64 v).wf = true) :
    Calls Tryd.prog 63 #[.int .i64 m, .slice (some ⟨B, 0, none⟩) 4 4] (W.alloc (.cells #[.int .i64 x, .int .i64 y, .int .i64 u, .int .i64 v] 3)) fun e w' => e = .returned (.bool (witB m [x, y, u, v])) ∧ W.alloc (.cells #[.int .i64 x, .int .i64 y, .int .i64 u, .int .i64 v] 3) = w' :=
  within_any m _ 4 4 [x, y, u, v] _ (Sl.lit .i64 W [x, y, u, v] 3 4 B hB rfl (by omega) (fun z hz => by simp at hz; rcases hz with rfl | rfl | rfl | rfl <;> assumption)) b
theorem within_5 (m x y u v t : Int) (B : Nat) (W : World) (hB : B = W.heap.size) (b : -9223372036854775808 ≤ m ∧ m ≤ 9223372036854775807) (bx : (Lit.int .i64 x).wf = true) (by' : (Lit.int .i64 y).wf = true) (bu : (Lit.int .i64 u).wf = true) (bv : (Lit.int .i64 v).wf = true) (bt : (Lit.int .i64 t).wf = true) :
    Calls Tryd.prog 63 #[.int .i64 m, .slice (some ⟨B, 0, none⟩) 5 5] (W.alloc (.cells #[.int .i64 x, .int .i64 y, .int .i64 u, .int .i64 v, .int .i64 t] 3)) fun e w' => e = .returned (.bool (witB m [x, y, u, v, t])) ∧ W.alloc (.cells #[.int .i64 x, .int .i64 y, .int .i64 u, .int .i64 v, .int .i64 t] 3) = w' :=
  within_any m _ 5 5 [x, y, u, v, t] _ (Sl.lit .i64 W [x, y, u, v, t] 3 5 B hB rfl (by omega) (fun z hz => by simp at hz; rcases hz with rfl | rfl | rfl | rfl | rfl <;> assumption)) b

def baseB (h : Hd) : Bool := witB 255 [h.tos, h.ttl] && witB 65535 [h.id, h.fromPort, h.toPort, h.check] && witB 1 [h.fixed] && witB 4294967295 [h.frm, h.to]
def vrtpB (h : Hd) : Bool := witB 1 [h.marker] && witB 127 [h.type] && witB 65535 [h.seq] && witB 4294967295 [h.time, h.source]

set_option maxRecDepth 100000 in
set_option maxHeartbeats 1600000 in
theorem validBase_any (h : Hd) (w : World) (b : h.Fits) :
    Calls Tryd.prog 62 #[(.agg #[.int .i64 h.kind, .int .i64 h.tos, .int .i64 h.id, .int .i64 h.fixed, .int .i64 h.ttl, .int .i64 h.frm, .int .i64 h.to, .int .i64 h.fromPort, .int .i64 h.toPort, .int .i64 h.check, .int .i64 h.marker, .int .i64 h.type, .int .i64 h.seq, .int .i64 h.time, .int .i64 h.source])] w fun e w' => e = .returned (.bool (baseB h)) ∧ Below w.heap.size w w' := by
  obtain ⟨x_kind, x_tos, x_id, x_fixed, x_ttl, x_frm, x_to, x_fromPort, x_toPort, x_check, x_marker, x_type, x_seq, x_time, x_source⟩ := h
  obtain ⟨f_kind, f_tos, f_id, f_fixed, f_ttl, f_frm, f_to, f_fromPort, f_toPort, f_check, f_marker, f_type, f_seq, f_time, f_source⟩ := b
  unfold baseB
  simp only at *
  have HA : Hid (∀ (W : World) (o : Obj), Below w.heap.size w W → Below w.heap.size w (W.alloc o)) := Lib.hid (fun W o hb => hb.alloc hb.size o)
  have I1 := Lib.hid (fun B W hB => within_2 255 x_tos x_ttl B W hB (by omega) (wf_fit f_tos) (wf_fit f_ttl))
  have I2 := Lib.hid (fun B W hB => within_4 65535 x_id x_fromPort x_toPort x_check B W hB (by omega) (wf_fit f_id) (wf_fit f_fromPort) (wf_fit f_toPort) (wf_fit f_check))
  have I3 := Lib.hid (fun B W hB => within_1 1 x_fixed B W hB (by omega) (wf_fit f_fixed))
  have I4 := Lib.hid (fun B W hB => within_2 4294967295 x_frm x_to B W hB (by omega) (wf_fit f_frm) (wf_fit f_to))
  generalize witB 255 [x_tos, x_ttl] = c1 at I1 ⊢
  generalize witB 65535 [x_id, x_fromPort, x_toPort, x_check] = c2 at I2 ⊢
  generalize witB 1 [x_fixed] = c3 at I3 ⊢
  generalize witB 4294967295 [x_frm, x_to] = c4 at I4 ⊢
  clear f_kind f_tos f_id f_fixed f_ttl f_frm f_to f_fromPort f_toPort f_check f_marker f_type f_seq f_time f_source
  go_enter Tryd.func62, Tryd.ntmps62
  go_wp2_with (first
    | (go_at_call 63; ((with_reducible refine (I1.out _ _ ?_).mono ?_); simp; rintro e w' ⟨rfl, rfl⟩))
    | (go_at_call 63; ((with_reducible refine (I2.out _ _ ?_).mono ?_); simp; rintro e w' ⟨rfl, rfl⟩))
    | (go_at_call 63; ((with_reducible refine (I3.out _ _ ?_).mono ?_); simp; rintro e w' ⟨rfl, rfl⟩))
    | (go_at_call 63; ((with_reducible refine (I4.out _ _ ?_).mono ?_); simp; rintro e w' ⟨rfl, rfl⟩))
    | fail)
  all_goals go_ret
  all_goals refine ⟨ret_bool ?_, ?_⟩
  all_goals clear I1 I2 I3 I4
  all_goals first | (simp; done) | (simp_all; done) | (repeat (first | exact Below.refl _ _ | refine HA.out _ _ ?_))

set_option maxRecDepth 100000 in
set_option maxHeartbeats 1600000 in
theorem validRtp_any (h : Hd) (w : World) (b : h.Fits) :
    Calls Tryd.prog 64 #[(.agg #[.int .i64 h.kind, .int .i64 h.tos, .int .i64 h.id, .int .i64 h.fixed, .int .i64 h.ttl, .int .i64 h.frm, .int .i64 h.to, .int .i64 h.fromPort, .int .i64 h.toPort, .int .i64 h.check, .int .i64 h.marker, .int .i64 h.type, .int .i64 h.seq, .int .i64 h.time, .int .i64 h.source])] w fun e w' => e = .returned (.bool (vrtpB h)) ∧ Below w.heap.size w w' := by
  obtain ⟨x_kind, x_tos, x_id, x_fixed, x_ttl, x_frm, x_to, x_fromPort, x_toPort, x_check, x_marker, x_type, x_seq, x_time, x_source⟩ := h
  obtain ⟨f_kind, f_tos, f_id, f_fixed, f_ttl, f_frm, f_to, f_fromPort, f_toPort, f_check, f_marker, f_type, f_seq, f_time, f_source⟩ := b
  unfold vrtpB
  simp only at *
  have HA : Hid (∀ (W : World) (o : Obj), Below w.heap.size w W → Below w.heap.size w (W.alloc o)) := Lib.hid (fun W o hb => hb.alloc hb.size o)
  have I1 := Lib.hid (fun B W hB => within_1 1 x_marker B W hB (by omega) (wf_fit f_marker))
  have I2 := Lib.hid (fun B W hB => within_1 127 x_type B W hB (by omega) (wf_fit f_type))
  have I3 := Lib.hid (fun B W hB => within_1 65535 x_seq B W hB (by omega) (wf_fit f_seq))
  have I4 := Lib.hid (fun B W hB => within_2 4294967295 x_time x_source B W hB (by omega) (wf_fit f_time) (wf_fit f_source))
  generalize witB 1 [x_marker] = c1 at I1 ⊢
  generalize witB 127 [x_type] = c2 at I2 ⊢
  generalize witB 65535 [x_seq] = c3 at I3 ⊢
  generalize witB 4294967295 [x_time, x_source] = c4 at I4 ⊢
  clear f_kind f_tos f_id f_fixed f_ttl f_frm f_to f_fromPort f_toPort f_check f_marker f_type f_seq f_time f_source
  go_enter Tryd.func64, Tryd.ntmps64
  go_wp2_with (first
    | (go_at_call 63; ((with_reducible refine (I1.out _ _ ?_).mono ?_); simp; rintro e w' ⟨rfl, rfl⟩))
    | (go_at_call 63; ((with_reducible refine (I2.out _ _ ?_).mono ?_); simp; rintro e w' ⟨rfl, rfl⟩))
    | (go_at_call 63; ((with_reducible refine (I3.out _ _ ?_).mono ?_); simp; rintro e w' ⟨rfl, rfl⟩))
    | (go_at_call 63; ((with_reducible refine (I4.out _ _ ?_).mono ?_); simp; rintro e w' ⟨rfl, rfl⟩))
    | fail)
  all_goals go_ret
  all_goals refine ⟨ret_bool ?_, ?_⟩
  all_goals clear I1 I2 I3 I4
  all_goals first | (simp; done) | (simp_all; done) | (repeat (first | exact Below.refl _ _ | refine HA.out _ _ ?_))

theorem validB_eq (h : Hd) : validB h = if h.kind = 1 then baseB h && witB 0 [h.marker, h.type, h.seq, h.time, h.source] else if h.kind = 2 then baseB h && vrtpB h else false := by
  apply Bool.eq_iff_iff.2
  unfold validB baseB vrtpB witB
  by_cases k1 : h.kind = 1
  · simp [k1]; omega
  · by_cases k2 : h.kind = 2
    · simp [k2]; omega
    · simp [k1, k2]

/-- a header in a block of the call's own: its cells, at every later world -/
theorem hbox_cells (h : Hd) (w wk : World) (hb : Below (w.heap.size + 1) (w.alloc (.cells #[.int .i64 h.kind, .int .i64 h.tos, .int .i64 h.id, .int .i64 h.fixed, .int .i64 h.ttl, .int .i64 h.frm, .int .i64 h.to, .int .i64 h.fromPort, .int .i64 h.toPort, .int .i64 h.check, .int .i64 h.marker, .int .i64 h.type, .int .i64 h.seq, .int .i64 h.time, .int .i64 h.source] 23)) wk) (i : Nat) :
    wk.cell? ⟨w.heap.size, i, none⟩ = (#[.int .i64 h.kind, .int .i64 h.tos, .int .i64 h.id, .int .i64 h.fixed, .int .i64 h.ttl, .int .i64 h.frm, .int .i64 h.to, .int .i64 h.fromPort, .int .i64 h.toPort, .int .i64 h.check, .int .i64 h.marker, .int .i64 h.type, .int .i64 h.seq, .int .i64 h.time, .int .i64 h.source] : Array Value)[i]? := by
  rw [hb.cell (p := ⟨w.heap.size, i, none⟩) (by simp)]
  exact World.cell?_alloc_at (w := w) _ _ w.heap.size i rfl

set_option maxRecDepth 100000 in
set_option maxHeartbeats 1600000 in
theorem Valid_any (h : Hd) (w : World) (b : h.Fits) :
    Calls Tryd.prog 38 #[(.agg #[.int .i64 h.kind, .int .i64 h.tos, .int .i64 h.id, .int .i64 h.fixed, .int .i64 h.ttl, .int .i64 h.frm, .int .i64 h.to, .int .i64 h.fromPort, .int .i64 h.toPort, .int .i64 h.check, .int .i64 h.marker, .int .i64 h.type, .int .i64 h.seq, .int .i64 h.time, .int .i64 h.source])] w fun e w' => e = .returned (.bool (validB h)) ∧ Below w.heap.size w w' := by
  have VB := Lib.hid (fun W => validBase_any h W b)
  have VR := Lib.hid (fun W => validRtp_any h W b)
  have HC := Lib.hid (hbox_cells h w)
  have BW := Lib.hid ((Below.refl w.heap.size w).alloc (Nat.le_refl _) (.cells #[.int .i64 h.kind, .int .i64 h.tos, .int .i64 h.id, .int .i64 h.fixed, .int .i64 h.ttl, .int .i64 h.frm, .int .i64 h.to, .int .i64 h.fromPort, .int .i64 h.toPort, .int .i64 h.check, .int .i64 h.marker, .int .i64 h.type, .int .i64 h.seq, .int .i64 h.time, .int .i64 h.source] 23))
  have I5 := Lib.hid (fun B W hB => within_5 0 h.marker h.type h.seq h.time h.source B W hB (by omega) (wf_fit b.marker) (wf_fit b.type) (wf_fit b.seq) (wf_fit b.time) (wf_fit b.source))
  rw [validB_eq]
  generalize witB 0 [h.marker, h.type, h.seq, h.time, h.source] = c5 at I5 ⊢
  generalize baseB h = c1 at VB ⊢
  generalize vrtpB h = c2 at VR ⊢
  clear b
  by_cases k1 : h.kind = 1
  · rw [if_pos k1]
    have K1 : (h.kind == 1) = true := by rw [k1]; rfl
    clear k1
    go_enter Tryd.func38, Tryd.ntmps38
    go_wp2_with (first
      | (go_at_call 62; ((with_reducible refine (VB.out _).mono ?_); rintro e w2 ⟨rfl, hb⟩; have hb2 : Below (w.heap.size + 1) (w.alloc (.cells #[.int .i64 h.kind, .int .i64 h.tos, .int .i64 h.id, .int .i64 h.fixed, .int .i64 h.ttl, .int .i64 h.frm, .int .i64 h.to, .int .i64 h.fromPort, .int .i64 h.toPort, .int .i64 h.check, .int .i64 h.marker, .int .i64 h.type, .int .i64 h.seq, .int .i64 h.time, .int .i64 h.source] 23)) w2 := hb.mono (by simp); have B2 := Lib.hid hb2; have hc := HC.out w2 hb2; have hz2 : w.heap.size < w2.heap.size := Nat.lt_of_lt_of_le (by simp) hb2.size; clear hb hb2))
      | (go_at_call 63; ((with_reducible refine (I5.out _ _ ?_).mono ?_); simp; rintro e w' ⟨rfl, rfl⟩))
      | fail)
    all_goals go_ret
    all_goals refine ⟨ret_bool ?_, ?_⟩
    all_goals clear I5 VB VR HC hc
    all_goals first | (simp; done) | (simp_all; done) | exact BW.out.trans (B2.out.mono (by omega)) | exact BW.out.trans ((B2.out.mono (by omega)).alloc (by omega) _)
  · rw [if_neg k1]
    have K1 : (h.kind == 1) = false := by simpa using k1
    by_cases k2 : h.kind = 2
    · rw [if_pos k2]
      have K2 : (h.kind == 2) = true := by rw [k2]; rfl
      clear k1 k2 I5
      go_enter Tryd.func38, Tryd.ntmps38
      go_wp2_with (first
        | (go_at_call 62; ((with_reducible refine (VB.out _).mono ?_); rintro e w2 ⟨rfl, hb⟩; have hb2 : Below (w.heap.size + 1) (w.alloc (.cells #[.int .i64 h.kind, .int .i64 h.tos, .int .i64 h.id, .int .i64 h.fixed, .int .i64 h.ttl, .int .i64 h.frm, .int .i64 h.to, .int .i64 h.fromPort, .int .i64 h.toPort, .int .i64 h.check, .int .i64 h.marker, .int .i64 h.type, .int .i64 h.seq, .int .i64 h.time, .int .i64 h.source] 23)) w2 := hb.mono (by simp); have B2 := Lib.hid hb2; have hc := HC.out w2 hb2; have hz2 : w.heap.size < w2.heap.size := Nat.lt_of_lt_of_le (by simp) hb2.size; clear hb hb2))
        | (go_at_call 64; ((with_reducible refine (VR.out _).mono ?_); rintro e w3 ⟨rfl, hb⟩; have B3 := Lib.hid (B2.out.trans (hb.mono (by omega))); clear hb))
        | fail)
      all_goals go_ret
      all_goals refine ⟨ret_bool ?_, ?_⟩
      all_goals clear VB VR HC hc
      all_goals first | (simp; done) | (simp_all; done) | exact BW.out.trans (B2.out.mono (by omega)) | exact BW.out.trans (B3.out.mono (by omega))
    · rw [if_neg k2]
      have K2 : (h.kind == 2) = false := by simpa using k2
      clear k1 k2 I5
      go_enter Tryd.func38, Tryd.ntmps38
      go_wp2
      go_ret
      exact ⟨rfl, BW.out⟩
end Go.Proofs.YtkhcfmnebflgkaaDoor
/-
  What layer 6 answers, plainly.
-/
namespace Go.Proofs.YtkhcfmnebflgkaaDoor
open Go Go.RowKit

def statH (h : Hd) : Hd := ⟨h.kind, 0, 0, 0, 0, h.frm, h.to, h.fromPort, h.toPort, 0, 0, 0, 0, 0, h.source⟩
def zeroH : Hd := ⟨0, 0, 0, 0, 0, 0, 0, 0, 0, 0, 0, 0, 0, 0, 0⟩
def sameB (a b : Hd) : Bool := eqB (statH a) (statH b)
def numV (h : Hd) : Int := if h.kind = 2 then lowV 16 h.seq else lowV 16 h.id
def dynB (s f : Int) : Bool := decide ((0 ≤ s ∧ s ≤ 65535) ∧ (f = 0 ∨ f = 1))
/-- what Learn says of a growth of Time by t in s steps -/
def strV (t s : Int) : Int := if s ≠ 0 ∧ t.tmod s = 0 ∧ 0 ≤ t.tdiv s ∧ t.tdiv s ≤ 65535 then t.tdiv s else 0
def folV (h : Hd) (s : Int) : Int := lowV 16 (h.id + s)
def stepV (h : Hd) (n : Int) : Int := sigV 16 (numV h) n
def chgV (a b : Hd) : Int := (if a.tos = b.tos then 0 else 1) + (if a.ttl = b.ttl then 0 else 2) + (if a.fixed = b.fixed then 0 else 4) + (if a.type = b.type then 0 else 8) + (if (a.check == 0) = (b.check == 0) then 0 else 16)
def predH (s f : Int) (h : Hd) (n : Int) : Hd :=
  if validB h = true ∧ dynB s f = true then
    if h.kind = 2 then ⟨h.kind, h.tos, if f = 1 then folV h (stepV h n) else h.id, h.fixed, h.ttl, h.frm, h.to, h.fromPort, h.toPort, 0, 0, h.type, lowV 16 n, lowV 32 (h.time + s * stepV h n), h.source⟩
    else ⟨h.kind, h.tos, lowV 16 n, h.fixed, h.ttl, h.frm, h.to, h.fromPort, h.toPort, 0, 0, h.type, h.seq, h.time, h.source⟩
  else zeroH
def learnB (a b : Hd) : Bool := decide (validB a = true ∧ validB b = true ∧ a.kind = 2 ∧ sameB a b = true)
def learnS (a b : Hd) : Int := if learnB a b then strV (sigV 32 a.time b.time) (stepV a (numV b)) else 0
def learnF (a b : Hd) : Int := if learnB a b then (if b.id = folV a (stepV a (numV b)) then 1 else 0) else 0

theorem sig_low16 (a n : Int) : sigV 16 a (lowV 16 n) = sigV 16 a n := by
  have h : distV 16 a (lowV 16 n) = distV 16 a n := by
    rw [show (16 : Int) = ((16 : Nat) : Int) from rfl, distV_nat 16 _ _ (by omega), distV_nat 16 _ _ (by omega), lowV_nat 16 _ (by omega)]
    omega
  rw [show (16 : Int) = ((16 : Nat) : Int) from rfl] at h ⊢
  rw [sigV_nat 16 _ _ (by omega), sigV_nat 16 _ _ (by omega), h]
theorem low16_bd (x : Int) : 0 ≤ lowV 16 x ∧ lowV 16 x ≤ 65535 := by
  rw [show (16 : Int) = ((16 : Nat) : Int) from rfl, lowV_nat 16 _ (by omega)]; omega
theorem low16_self {x : Int} (h0 : 0 ≤ x) (h1 : x ≤ 65535) : lowV 16 x = x := by
  rw [show (16 : Int) = ((16 : Nat) : Int) from rfl, lowV_nat 16 _ (by omega)]; omega
theorem low32_bd (x : Int) : 0 ≤ lowV 32 x ∧ lowV 32 x ≤ 4294967295 := by
  rw [show (32 : Int) = ((32 : Nat) : Int) from rfl, lowV_nat 32 _ (by omega)]; omega
theorem sig16_bd (a b : Int) : -32768 ≤ sigV 16 a b ∧ sigV 16 a b ≤ 32767 := by
  rw [show (16 : Int) = ((16 : Nat) : Int) from rfl, sigV_nat 16 _ _ (by omega), distV_nat 16 _ _ (by omega)]
  simp only [show (2 : Int) ^ (16 - 1) = 32768 from rfl, show (2 : Int) ^ 16 = 65536 from rfl]
  split <;> omega
theorem numV_bd (h : Hd) : 0 ≤ numV h ∧ numV h ≤ 65535 := by unfold numV; split <;> exact low16_bd _
end Go.Proofs.YtkhcfmnebflgkaaDoor
/-
  Static and Valid of the document's own layer 6.
-/
namespace Go.Proofs.YtkhcfmnebflgkaaDoor
open Go Go.RowKit

set_option maxRecDepth 100000 in
set_option maxHeartbeats 1600000 in
theorem rStatic_any (h : Hd) (w : World) :
    Calls Tryd.prog 45 #[(.agg #[.int .i64 h.kind, .int .i64 h.tos, .int .i64 h.id, .int .i64 h.fixed, .int .i64 h.ttl, .int .i64 h.frm, .int .i64 h.to, .int .i64 h.fromPort, .int .i64 h.toPort, .int .i64 h.check, .int .i64 h.marker, .int .i64 h.type, .int .i64 h.seq, .int .i64 h.time, .int .i64 h.source])] w fun e w' => e = .returned (.agg #[.int .i64 (statH h).kind, .int .i64 (statH h).tos, .int .i64 (statH h).id, .int .i64 (statH h).fixed, .int .i64 (statH h).ttl, .int .i64 (statH h).frm, .int .i64 (statH h).to, .int .i64 (statH h).fromPort, .int .i64 (statH h).toPort, .int .i64 (statH h).check, .int .i64 (statH h).marker, .int .i64 (statH h).type, .int .i64 (statH h).seq, .int .i64 (statH h).time, .int .i64 (statH h).source]) ∧ Below w.heap.size w w' := by
  have K := heap_alloc_new (w.alloc (.cells #[.int .i64 h.kind, .int .i64 h.tos, .int .i64 h.id, .int .i64 h.fixed, .int .i64 h.ttl, .int .i64 h.frm, .int .i64 h.to, .int .i64 h.fromPort, .int .i64 h.toPort, .int .i64 h.check, .int .i64 h.marker, .int .i64 h.type, .int .i64 h.seq, .int .i64 h.time, .int .i64 h.source] 23)) (.cells #[.int .i64 (statH h).kind, .int .i64 (statH h).tos, .int .i64 (statH h).id, .int .i64 (statH h).fixed, .int .i64 (statH h).ttl, .int .i64 (statH h).frm, .int .i64 (statH h).to, .int .i64 (statH h).fromPort, .int .i64 (statH h).toPort, .int .i64 (statH h).check, .int .i64 (statH h).marker, .int .i64 (statH h).type, .int .i64 (statH h).seq, .int .i64 (statH h).time, .int .i64 (statH h).source] 23)
  rw [show (w.alloc (.cells #[.int .i64 h.kind, .int .i64 h.tos, .int .i64 h.id, .int .i64 h.fixed, .int .i64 h.ttl, .int .i64 h.frm, .int .i64 h.to, .int .i64 h.fromPort, .int .i64 h.toPort, .int .i64 h.check, .int .i64 h.marker, .int .i64 h.type, .int .i64 h.seq, .int .i64 h.time, .int .i64 h.source] 23)).heap.size = w.heap.size + 1 by simp] at K
  have hc := cells_of K
  have BW := Lib.hid (((Below.refl w.heap.size w).alloc (Nat.le_refl _) (.cells #[.int .i64 h.kind, .int .i64 h.tos, .int .i64 h.id, .int .i64 h.fixed, .int .i64 h.ttl, .int .i64 h.frm, .int .i64 h.to, .int .i64 h.fromPort, .int .i64 h.toPort, .int .i64 h.check, .int .i64 h.marker, .int .i64 h.type, .int .i64 h.seq, .int .i64 h.time, .int .i64 h.source] 23)).alloc (by simp) (.cells #[.int .i64 (statH h).kind, .int .i64 (statH h).tos, .int .i64 (statH h).id, .int .i64 (statH h).fixed, .int .i64 (statH h).ttl, .int .i64 (statH h).frm, .int .i64 (statH h).to, .int .i64 (statH h).fromPort, .int .i64 (statH h).toPort, .int .i64 (statH h).check, .int .i64 (statH h).marker, .int .i64 (statH h).type, .int .i64 (statH h).seq, .int .i64 (statH h).time, .int .i64 (statH h).source] 23))
  clear K
  simp only [statH] at hc BW ⊢
  go_enter Tryd.func45, Tryd.ntmps45
  go_wp2
  generalize (w.alloc (.cells #[.int .i64 h.kind, .int .i64 h.tos, .int .i64 h.id, .int .i64 h.fixed, .int .i64 h.ttl, .int .i64 h.frm, .int .i64 h.to, .int .i64 h.fromPort, .int .i64 h.toPort, .int .i64 h.check, .int .i64 h.marker, .int .i64 h.type, .int .i64 h.seq, .int .i64 h.time, .int .i64 h.source] 23)).alloc _ = W at hc BW ⊢
  refine bodyPost_ret (by simp [results, Tryd.results45, go_sem, hc]; rfl) rfl ?_
  exact ⟨rfl, BW.out⟩

theorem rDyn_any (s f : Int) (w : World) :
    Calls Tryd.prog 44 #[.agg #[.int .i64 s, .int .i64 f]] w fun e w' => e = .returned (.bool (dynB s f)) ∧ Below w.heap.size w w' := by
  have BW := Lib.hid ((Below.refl w.heap.size w).alloc (Nat.le_refl _) (.cells #[.int .i64 s, .int .i64 f] 25))
  unfold dynB
  by_cases h0 : 0 ≤ s
  · by_cases h1 : s ≤ 65535
    · by_cases hf : f = 0
      · subst hf
        go_enter Tryd.func44, Tryd.ntmps44
        go_wp2
        go_ret
        exact ⟨ret_bool (by simp [h0, h1]), BW.out⟩
      · have F0 : (f == 0) = false := by simpa using hf
        go_enter Tryd.func44, Tryd.ntmps44
        go_wp2
        go_ret
        exact ⟨ret_bool (by simp [h0, h1, hf, Bool.beq_eq_decide_eq]), BW.out⟩
    · go_enter Tryd.func44, Tryd.ntmps44
      go_wp2
      go_ret
      exact ⟨ret_bool (by simp; omega), BW.out⟩
  · go_enter Tryd.func44, Tryd.ntmps44
    go_wp2
    go_ret
    exact ⟨ret_bool (by simp; omega), BW.out⟩
end Go.Proofs.YtkhcfmnebflgkaaDoor
/-
  What layer 8 answers, plainly: packets in parts that are valid.
-/
namespace Go.Proofs.YtkhcfmnebflgkaaDoor
open Go Go.RowKit

def kindH (k : Int) : Hd := ⟨k, 0, 0, 0, 0, 0, 0, 0, 0, 0, 0, 0, 0, 0, 0⟩
/-- the greatest numbers that the three small formats have room for -/
def smNumM (f k : Int) : Int := if f = 2 then 31 else if f = 3 then (if k = 2 then 255 else 65535) else 15
def smTimeM (f k : Int) : Int := if k = 2 then (if f = 2 then 65535 else if f = 3 then 4294967295 else 0) else 0
def smMarkM (f k : Int) : Int := if k = 2 then (if f = 2 then 1 else if f = 3 then 1 else 0) else 0
def smIdM (f k : Int) : Int := if k = 2 then (if f = 3 then 65535 else 0) else 0
def smChkM (f : Int) : Int := if f = 2 then 127 else if f = 3 then 255 else 7
def smDyn0 (s : Sm) : Bool := s.ds == 0 && s.df == 0
def smHeadB (s : Sm) : Bool := (s.h.kind == 1 || s.h.kind == 2) && eqB s.h (kindH s.h.kind) && smDyn0 s && inB s.udp 65535
def smLowB (s : Sm) : Bool := inB s.num (smNumM s.fmt s.h.kind) && inB s.time (smTimeM s.fmt s.h.kind) && inB s.mark (smMarkM s.fmt s.h.kind) && inB s.id (smIdM s.fmt s.h.kind) && inB s.chk (smChkM s.fmt)
def smSmallB (s : Sm) : Bool := smHeadB s && smLowB s
def smNoneB (s : Sm) : Bool := s.num == 0 && s.time == 0 && s.mark == 0 && s.id == 0 && s.udp == 0
def smRawB (s : Sm) : Bool := s.ctx == 0 && eqB s.h zeroH && smDyn0 s && s.chk == 0
def smBigB (s : Sm) : Bool := validB s.h && dynB s.ds s.df && !(s.h.kind == 1 && !smDyn0 s) && inB s.chk 255 && (s.fmt == 5 || eqB (statH s.h) (kindH s.h.kind))
def smB (s : Sm) : Bool := inB s.ctx 15 && decide (1 ≤ s.fmt ∧ s.fmt ≤ 6) && decide (s.pn ≤ 1500) && (if s.fmt < 4 then smSmallB s else smNoneB s && (if s.fmt = 6 then smRawB s else smBigB s))
end Go.Proofs.YtkhcfmnebflgkaaDoor
/-
  Numbers of any width packed one after the other, read off bytes: when some bytes are what Pack answers. Plain, no Go text.
-/
namespace Go.Proofs.YtkhcfmnebflgkaaDoor
open Go Go.RowKit

theorem packTo_keep (ws vs zs : List Int) (hz : Bytes zs) (N : Nat) (hf : ∀ i, i < N → wid vs i < 2 ^ wid ws i) : ∀ (n i j : Nat), n ≤ N → i < n → sumTo ws n ≤ 8 * zs.length → sumTo ws i ≤ j → j < sumTo ws i + wid ws i →
    bitAt (packTo ws vs zs n) j = wid vs i / 2 ^ (wid ws i - 1 - (j - sumTo ws i)) % 2
  | n + 1, i, j, hN, hi, hs, h1, h2 => by
    simp only [packTo]
    simp only [sumTo] at hs
    have hb := packTo_bytes (ws := ws) (vs := vs) hz n
    rw [bitAt_putTo hb _ _ _ _ _ (by rw [packTo_length]; omega)]
    by_cases e : i = n
    · subst e
      rw [if_pos ⟨h1, h2⟩]
    · have hmono := sumTo_mono ws (show i + 1 ≤ n by omega)
      simp only [sumTo] at hmono
      rw [if_neg (by omega)]
      exact packTo_keep ws vs zs hz N hf n i j (by omega) (by omega) (by omega) h1 h2

/-- a bit of a number that is read -/
theorem numAt_bit (zs : List Int) (p : Nat) : ∀ (n j : Nat), j < n → bitAt zs (p + j) = numAt zs p n / 2 ^ (n - 1 - j) % 2
  | n + 1, j, h => by
    have hb := bitAt_lt zs (p + n)
    by_cases e : j = n
    · subst e
      simp only [numAt]
      rw [show j + 1 - 1 - j = 0 by omega]
      omega
    · have ih := numAt_bit zs p n j (by omega)
      rw [ih]
      simp only [numAt]
      rw [show n + 1 - 1 - j = (n - 1 - j) + 1 by omega, Nat.pow_succ', ← Nat.div_div_eq_div_mul]
      rw [show (2 * numAt zs p n + bitAt zs (p + n)) / 2 = numAt zs p n by omega]

theorem byte_bits : ∀ x, x < 256 → x / 2 ^ 7 % 2 * 128 + x / 2 ^ 6 % 2 * 64 + x / 2 ^ 5 % 2 * 32 + x / 2 ^ 4 % 2 * 16 + x / 2 ^ 3 % 2 * 8 + x / 2 ^ 2 % 2 * 4 + x / 2 ^ 1 % 2 * 2 + x / 2 ^ 0 % 2 = x := by decide +kernel
/-- bytes with the same bits are the same -/
theorem bits_eq {xs ys : List Int} (hx : Bytes xs) (hy : Bytes ys) (hl : xs.length = ys.length) (h : ∀ j, j < 8 * xs.length → bitAt xs j = bitAt ys j) : xs = ys := by
  apply List.ext_getElem hl
  intro k h1 h2
  have e : xs.getD k 0 = ys.getD k 0 := by
    have bx := hx k
    have bY := hy k
    have a := byte_bits (xs.getD k 0).toNat (by omega)
    have b := byte_bits (ys.getD k 0).toNat (by omega)
    have q : ∀ r, r < 8 → (xs.getD k 0).toNat / 2 ^ (7 - r) % 2 = (ys.getD k 0).toNat / 2 ^ (7 - r) % 2 := fun r hr => by
      have := h (8 * k + r) (by omega)
      unfold bitAt at this
      rw [show (8 * k + r) / 8 = k by omega, show (8 * k + r) % 8 = r by omega] at this
      exact this
    have q0 := q 0 (by omega)
    have q1 := q 1 (by omega)
    have q2 := q 2 (by omega)
    have q3 := q 3 (by omega)
    have q4 := q 4 (by omega)
    have q5 := q 5 (by omega)
    have q6 := q 6 (by omega)
    have q7 := q 7 (by omega)
    simp only [Nat.sub_zero, Nat.reduceSub] at q0 q1 q2 q3 q4 q5 q6 q7
    rw [← q0, ← q1, ← q2, ← q3, ← q4, ← q5, ← q6, ← q7] at b
    omega
  rw [List.getD_eq_getElem?_getD, List.getD_eq_getElem?_getD, List.getElem?_eq_getElem h1, List.getElem?_eq_getElem h2] at e
  exact e

theorem sumTo_find (ws : List Int) : ∀ (n j : Nat), j < sumTo ws n → ∃ i, i < n ∧ sumTo ws i ≤ j ∧ j < sumTo ws i + wid ws i
  | n + 1, j, h => by
    simp only [sumTo] at h
    by_cases e : j < sumTo ws n
    · obtain ⟨i, h1, h2⟩ := sumTo_find ws n j e
      exact ⟨i, by omega, h2⟩
    · exact ⟨n, by omega, by omega, by omega⟩
theorem zero_bytes (m : Nat) : Bytes (List.replicate m 0) := by
  intro i
  rw [List.getD_eq_getElem?_getD, List.getElem?_replicate]
  split <;> simp

/-- bytes from which the numbers are read are what Pack answers -/
theorem pack_eq {ws vs zs : List Int} {n : Nat} (h1 : ws.length = n) (h2 : vs.length = n) (h3 : n ≤ 256) (h : fitsTo ws vs n = true) (hz : Bytes zs) (hl : sumTo ws n = 8 * zs.length)
    (hv : ∀ i, i < n → numAt zs (sumTo ws i) (wid ws i) = wid vs i) : packV ws vs = zs := by
  rw [(pack_fits h1 h2 h3 h).1]
  have e8 : (sumTo ws n + 7) / 8 = zs.length := by omega
  rw [e8]
  have hb := packTo_bytes (ws := ws) (vs := vs) (zero_bytes zs.length) n
  have hlen : (packTo ws vs (List.replicate zs.length 0) n).length = zs.length := by rw [packTo_length]; simp
  refine bits_eq hb hz hlen fun j hj => ?_
  obtain ⟨i, hi, a, b⟩ := sumTo_find ws n j (by omega)
  rw [packTo_keep ws vs _ (zero_bytes _) n (fun i hi => (fitsAt_yes (fitsTo_all h i hi)).2.2.2) n i j (Nat.le_refl _) hi (by rw [List.length_replicate]; omega) a b]
  have := numAt_bit zs (sumTo ws i) (wid ws i) (j - sumTo ws i) (by omega)
  rw [show sumTo ws i + (j - sumTo ws i) = j by omega, hv i hi] at this
  exact this.symm

/-- what Pack answers, read -/
theorem pack_read {ws vs : List Int} {n : Nat} (h1 : ws.length = n) (h2 : vs.length = n) (h3 : n ≤ 256) (h : fitsTo ws vs n = true) (i : Nat) (hi : i < n) : numAt (packV ws vs) (sumTo ws i) (wid ws i) = wid vs i := by
  rw [(pack_fits h1 h2 h3 h).1]
  have hmono := sumTo_mono ws (show i + 1 ≤ n by omega)
  simp only [sumTo] at hmono
  have hf := fun i hi => (fitsAt_yes (fitsTo_all h i hi)).2.2.2
  have e : numAt (packTo ws vs (List.replicate ((sumTo ws n + 7) / 8) 0) n) (sumTo ws i) (wid ws i) = numAt (putTo (List.replicate ((sumTo ws n + 7) / 8) 0) (sumTo ws i) (wid ws i) (wid vs i) (wid ws i)) (sumTo ws i) (wid ws i) := by
    apply numAt_congr
    intro j a b
    rw [packTo_keep ws vs _ (zero_bytes _) n hf n i j (Nat.le_refl _) hi (by rw [List.length_replicate]; omega) a b, bitAt_putTo (zero_bytes _) _ _ _ _ _ (by rw [List.length_replicate]; omega), if_pos ⟨a, b⟩]
  rw [e, numAt_putTo (zero_bytes _) _ _ _ (by rw [List.length_replicate]; omega) (hf i hi)]

/-- the number in some bits of one byte -/
theorem one_byte : ∀ x : Nat, x < 256 → ∀ q, q < 8 → ∀ n, n < 9 - q → numAt [(x : Int)] q n = x / 2 ^ (8 - q - n) % 2 ^ n := by decide +kernel
theorem numAt_in (zs : List Int) (hz : Bytes zs) (k q n : Nat) (h : q + n ≤ 8) : numAt zs (8 * k + q) n = (zs.getD k 0).toNat / 2 ^ (8 - q - n) % 2 ^ n := by
  have b := hz k
  rcases Nat.eq_or_lt_of_le (show q ≤ 8 by omega) with rfl | hq
  · obtain rfl : n = 0 := by omega
    simp [numAt, Nat.mod_one]
  rw [← one_byte (zs.getD k 0).toNat (by omega) q hq n (by omega)]
  have e : ∀ m, m ≤ n → numAt zs (8 * k + q) m = numAt [((zs.getD k 0).toNat : Int)] q m := by
    intro m
    induction m with
    | zero => intro _; rfl
    | succ m ih =>
      intro hm
      simp only [numAt]
      rw [ih (by omega)]
      congr 1
      unfold bitAt
      rw [show (8 * k + q + m) / 8 = k by omega, show (8 * k + q + m) % 8 = q + m by omega, show (q + m) / 8 = 0 by omega, show (q + m) % 8 = q + m by omega]
      have e1 : ([((zs.getD k 0).toNat : Int)] : List Int).getD 0 0 = zs.getD k 0 := by show ((zs.getD k 0).toNat : Int) = _; omega
      rw [e1]
  exact e n (Nat.le_refl _)
theorem numAt_byte (zs : List Int) (hz : Bytes zs) (k : Nat) : numAt zs (8 * k) 8 = (zs.getD k 0).toNat := by
  have b := hz k
  have := numAt_in zs hz k 0 8 (by omega)
  rw [Nat.add_zero] at this
  rw [this, Nat.sub_zero, Nat.sub_self, Nat.pow_zero, Nat.div_one]
  exact Nat.mod_eq_of_lt (by omega)
theorem numAt_two (zs : List Int) (hz : Bytes zs) (k : Nat) : numAt zs (8 * k) 16 = 256 * (zs.getD k 0).toNat + (zs.getD (k + 1) 0).toNat := by
  rw [show (16 : Nat) = 8 + 8 from rfl, numAt_split, numAt_byte zs hz k, show 8 * k + 8 = 8 * (k + 1) by omega, numAt_byte zs hz (k + 1)]; omega
theorem numAt_four (zs : List Int) (hz : Bytes zs) (k : Nat) : numAt zs (8 * k) 32 = 16777216 * (zs.getD k 0).toNat + 65536 * (zs.getD (k + 1) 0).toNat + 256 * (zs.getD (k + 2) 0).toNat + (zs.getD (k + 3) 0).toNat := by
  rw [show (32 : Nat) = 16 + 16 from rfl, numAt_split, numAt_two zs hz k, show 8 * k + 16 = 8 * (k + 2) by omega, numAt_two zs hz (k + 2), show k + 2 + 1 = k + 3 by omega]; omega

theorem getD_app_left {xs ys : List Int} {k : Nat} (h : k < xs.length) : (xs ++ ys).getD k 0 = xs.getD k 0 := by
  rw [List.getD_eq_getElem?_getD, List.getD_eq_getElem?_getD, List.getElem?_append_left h]
theorem getD_app_right {xs ys : List Int} {k : Nat} (h : xs.length ≤ k) : (xs ++ ys).getD k 0 = ys.getD (k - xs.length) 0 := by
  rw [List.getD_eq_getElem?_getD, List.getD_eq_getElem?_getD, List.getElem?_append_right h]
theorem numAt_left {xs ys : List Int} {p n : Nat} (h : p + n ≤ 8 * xs.length) : numAt (xs ++ ys) p n = numAt xs p n := by
  apply numAt_congr
  intro j h1 h2
  unfold bitAt
  rw [getD_app_left (by omega)]
theorem Bytes.app {xs ys : List Int} (hx : Bytes xs) (hy : Bytes ys) : Bytes (xs ++ ys) := fun i => by
  rcases Nat.lt_or_ge i xs.length with h | h
  · rw [getD_app_left h]; exact hx i
  · rw [getD_app_right h]; exact hy _
theorem getD_snoc {xs : List Int} {x : Int} {i : Nat} : (xs ++ [x]).getD i 0 = if i < xs.length then xs.getD i 0 else if i = xs.length then x else 0 := by
  split
  · exact getD_app_left ‹_›
  · rw [getD_app_right (by omega)]
    split
    · subst i; simp
    · rename_i h1 h2
      rw [List.getD_eq_getElem?_getD, List.getElem?_eq_none (by simp; omega)]; rfl
theorem sumTo_congr {ws xs : List Int} : ∀ {n : Nat}, (∀ i, i < n → wid ws i = wid xs i) → sumTo ws n = sumTo xs n
  | 0, _ => rfl
  | n + 1, h => by simp only [sumTo]; rw [sumTo_congr (fun i hi => h i (by omega)), h n (by omega)]
theorem fitsTo_congr {ws vs xs ys : List Int} : ∀ {n : Nat}, (∀ i, i < n → ws.getD i 0 = xs.getD i 0 ∧ vs.getD i 0 = ys.getD i 0) → fitsTo ws vs n = fitsTo xs ys n
  | 0, _ => rfl
  | n + 1, h => by simp only [fitsTo, fitsAt]; rw [fitsTo_congr (fun i hi => h i (by omega)), (h n (by omega)).1, (h n (by omega)).2]
theorem two_bytes {c : Int} (h0 : 0 ≤ c) (h1 : c ≤ 65535) : Bytes [c / 256, c % 256] := fun i => by
  match i with
  | 0 => simp; omega
  | 1 => simp; omega
  | i + 2 => simp

/-- two bytes more -/
theorem pack_two {ws vs zs : List Int} {n : Nat} {c : Int} (h1 : ws.length = n) (h2 : vs.length = n) (h3 : n ≤ 255) (h : fitsTo ws vs n = true) (hz : Bytes zs) (hl : sumTo ws n = 8 * zs.length)
    (hp : packV ws vs = zs) (c0 : 0 ≤ c) (c1 : c ≤ 65535) : packV (ws ++ [16]) (vs ++ [c]) = zs ++ [c / 256, c % 256] := by
  have hw : ∀ i, i < n → (ws ++ [16]).getD i 0 = ws.getD i 0 := fun i hi => getD_app_left (by omega)
  have hv : ∀ i, i < n → (vs ++ [c]).getD i 0 = vs.getD i 0 := fun i hi => getD_app_left (by omega)
  have hw' : ∀ i, i < n → wid (ws ++ [16]) i = wid ws i := fun i hi => by unfold wid; rw [hw i hi]
  have hv' : ∀ i, i < n → wid (vs ++ [c]) i = wid vs i := fun i hi => by unfold wid; rw [hv i hi]
  have hwn : (ws ++ [16]).getD n 0 = 16 := by rw [getD_app_right (by omega), h1]; simp
  have hvn : (vs ++ [c]).getD n 0 = c := by rw [getD_app_right (by omega), h2]; simp
  have hS : sumTo (ws ++ [16]) n = sumTo ws n := sumTo_congr hw'
  have hB := Bytes.app hz (two_bytes c0 c1)
  refine pack_eq (n := n + 1) (by simp [h1]) (by simp [h2]) (by omega) ?_ hB ?_ ?_
  · simp only [fitsTo]
    rw [fitsTo_congr (fun i hi => ⟨hw i hi, hv i hi⟩), h, fitsAt, hwn, hvn, fitsB_yes ⟨by decide, by decide, c0, by simp; omega⟩]; rfl
  · simp only [sumTo]
    rw [hS, hl, wid, hwn]; simp; omega
  · intro i hi
    rcases Nat.lt_or_ge i n with h' | h'
    · rw [sumTo_congr (fun j hj => hw' j (by omega)), hw' i h', hv' i h']
      have hm := sumTo_mono ws (show i + 1 ≤ n by omega)
      simp only [sumTo] at hm
      rw [numAt_left (by omega), ← hp]
      exact pack_read h1 h2 (by omega) h i h'
    · obtain rfl : i = n := by omega
      have e : wid (ws ++ [16]) i = 16 := by unfold wid; rw [hwn]; rfl
      rw [hS, hl, e, numAt_two _ hB]
      unfold wid
      rw [hvn, getD_app_right (by omega), getD_app_right (by omega), show zs.length - zs.length = 0 by omega, show zs.length + 1 - zs.length = 1 by omega]
      simp; omega
end Go.Proofs.YtkhcfmnebflgkaaDoor
/-
  Slices of fields (a number of bits, a pointer to an int of one block): literals, append, what they read as.
-/
namespace Go.Proofs.YtkhcfmnebflgkaaDoor
open Go Go.RowKit

/-- the cells of fields whose values stand in the block G -/
def fCells (G : Nat) : List (Int × Nat) → List Value
  | [] => []
  | p :: r => .int .i64 p.1 :: .pointer (some ⟨G, p.2, none⟩) :: fCells G r
theorem fCells_app (G : Nat) : ∀ (xs ys : List (Int × Nat)), fCells G (xs ++ ys) = fCells G xs ++ fCells G ys
  | [], _ => rfl
  | p :: r, ys => by simp only [List.cons_append, fCells, fCells_app G r ys]
theorem fCells_len (G : Nat) : ∀ (xs : List (Int × Nat)), (fCells G xs).length = 2 * xs.length
  | [] => rfl
  | p :: r => by simp only [List.length_cons, fCells, fCells_len G r]; omega
theorem fCells_one (G : Nat) : ∀ (xs : List (Int × Nat)), ∀ u ∈ fCells G xs, u.oneCell' = true
  | [], _, h => by cases h
  | p :: r, u, h => by
    simp only [fCells, List.mem_cons] at h
    rcases h with rfl | rfl | h
    · rfl
    · rfl
    · exact fCells_one G r u h
theorem fCells_at (G : Nat) : ∀ (xs : List (Int × Nat)) (i : Nat), i < xs.length → (fCells G xs)[2 * i]? = some (.int .i64 (xs.getD i (0, 0)).1) ∧ (fCells G xs)[2 * i + 1]? = some (.pointer (some ⟨G, (xs.getD i (0, 0)).2, none⟩))
  | p :: r, 0, _ => ⟨rfl, rfl⟩
  | p :: r, i + 1, h => by
    have := fCells_at G r i (by simpa using h)
    rw [show 2 * (i + 1) = 2 * i + 1 + 1 by omega]
    exact this

/-- a slice of fields that the call made -/
structure FR (G B : Nat) (w : World) (v : Value) (n : Nat) (fs : List (Int × Nat)) : Prop where
  own : w.ownsRow B 65 2 v n (fCells G fs)
  reach : n ≤ 1000
theorem FR.len {G B : Nat} {w : World} {v : Value} {n : Nat} {fs : List (Int × Nat)} (h : FR G B w v n fs) : fs.length = n := by
  have := h.own.1
  rw [fCells_len] at this
  omega
theorem FR.mono {G B B' : Nat} {w : World} {v : Value} {n : Nat} {fs : List (Int × Nat)} (h : FR G B w v n fs) (hB : B' ≤ B) : FR G B' w v n fs := by
  refine ⟨⟨h.own.1, ?_⟩, h.reach⟩
  rcases h.own.2 with h0 | ⟨g, cap, cur, hv, hb, r⟩
  · exact .inl h0
  · exact .inr ⟨g, cap, cur, hv, by omega, r⟩
theorem FR.ge {G B : Nat} {w : World} {v : Value} {n : Nat} {fs : List (Int × Nat)} (h : FR G B w v n fs) : ∀ g, v.ownBlock = some g → B ≤ g ∧ g < w.heap.size := fun g hg => by
  rcases h.own.2 with ⟨rfl, _⟩ | ⟨g', cap, cur, rfl, hb, hc, _⟩
  · simp [Value.ownBlock] at hg
  · simp [Value.ownBlock] at hg; subst hg; exact ⟨hb, lt_of_block hc⟩
theorem FR.keepRow {G B : Nat} {w w' : World} {v : Value} {n : Nat} {fs : List (Int × Nat)} {row : Option Nat} (h : FR G B w v n fs) (hb : w.grownBy w' row) (hg : v.ownBlock = none ∨ v.ownBlock ≠ row) : FR G B w' v n fs := ⟨h.own.kept hb hg, h.reach⟩
theorem FR.keep {G B : Nat} {w w' : World} {v : Value} {n : Nat} {fs : List (Int × Nat)} (h : FR G B w v n fs) (hb : Below w.heap.size w w') : FR G B w' v n fs := by
  refine ⟨⟨h.own.1, ?_⟩, h.reach⟩
  rcases h.own.2 with h0 | ⟨g, cap, cur, hv, hbg, hg, r⟩
  · exact .inl h0
  · refine .inr ⟨g, cap, cur, hv, hbg, ?_, r⟩
    rw [hb.block g (lt_of_block hg)]; exact hg
theorem FR.alloc {G B : Nat} {w : World} {v : Value} {n : Nat} {fs : List (Int × Nat)} (h : FR G B w v n fs) (o : Obj) : FR G B (w.alloc o) v n fs := ⟨h.own.alloc o, h.reach⟩
theorem FR.drew {G B : Nat} {w : World} {v : Value} {n : Nat} {fs : List (Int × Nat)} (h : FR G B w v n fs) : FR G B w.drew v n fs := ⟨h.own.drew, h.reach⟩
/-- a store into another block -/
theorem FR.set {G B : Nat} {w : World} {v : Value} {n : Nat} {fs : List (Int × Nat)} (h : FR G B w v n fs) (b i : Nat) (u : Value) (hb : v.ownBlock ≠ some b) : FR G B (w.setCell ⟨b, i, none⟩ u) v n fs := h.keepRow (setCell_but w b i u) (.inr hb)
theorem FR.lit (G B : Nat) (w : World) (fs : List (Int × Nat)) (n : Nat) (hB : B ≤ w.heap.size) (hn : fs.length = n) (hr : n ≤ 1000) : FR G B (w.alloc (.cells (fCells G fs).toArray 65)) (.slice (some ⟨w.heap.size, 0, none⟩) n n) n fs := by
  refine ⟨?_, hr⟩
  have h := World.ownsRow_lit (base := B) (e := 65) (size := 2) w (fCells G fs).toArray n hB (by unfold maxLen; omega) (by simp [fCells_len, hn]; omega)
  simpa using h
theorem FR.slice {G B : Nat} {w : World} {v : Value} {n : Nat} {fs : List (Int × Nat)} (h : FR G B w v n fs) : ∃ a cap, v = .slice a n cap ∧ n ≤ cap ∧ (a = none → n = 0 ∧ cap = 0) ∧ ∀ x, a = some x → ∃ g, x = ⟨g, 0, none⟩ := by
  rcases h.own.2 with ⟨rfl, rfl⟩ | ⟨g, cap, cur, rfl, _, _, hc, _⟩
  · exact ⟨_, _, rfl, by omega, fun _ => ⟨rfl, rfl⟩, fun x e => by cases e⟩
  · exact ⟨_, _, rfl, hc, fun e => (by cases e), fun x e => ⟨g, by cases e; rfl⟩⟩
theorem FR.at {G B : Nat} {w : World} {g n cap : Nat} {fs : List (Int × Nat)} (h : FR G B w (.slice (some ⟨g, 0, none⟩) n cap) n fs) {i : Nat} (hi : i < n) :
    w.cell? ⟨g, 2 * i, none⟩ = some (.int .i64 (fs.getD i (0, 0)).1) ∧ w.cell? ⟨g, 2 * i + 1, none⟩ = some (.pointer (some ⟨G, (fs.getD i (0, 0)).2, none⟩)) := by
  rw [h.own.cellAt (2 * i) (by omega), h.own.cellAt (2 * i + 1) (by omega)]
  exact fCells_at G fs i (by rw [h.len]; exact hi)

theorem info_field : (Tryd.prog.info? 65).map (fun i => (i.zero, i.size, i.bytes)) = some (some (.agg #[.int .i64 0, .pointer none]), 2, 16) := by kernel_rfl
theorem info3_parts {P : Program} {T : TypeId} {z : Value} {size bytes : Nat} (h : (P.info? T).map (fun i => (i.zero, i.size, i.bytes)) = some (some z, size, bytes)) : ∃ i, P.info? T = some i ∧ i.zero = some z ∧ i.size = size ∧ i.bytes = bytes := by
  cases hi : P.info? T with
  | none => rw [hi] at h; cases h
  | some i => rw [hi] at h; simp at h; exact ⟨i, rfl, h⟩

/-- 'append(l, ..)' of fields that the call made too -/
theorem wp_append_fr {w1 : World} {o : Oper} {a : Act} {K : Act → World → Prop} {Q : Exit → Act → World → Prop} (s x : Operand) (ho : o.op = .call { callee := .builtin .append, args := #[s, x], argTypes := #[60, 60] })
    (G B B' : Nat) (v : Value) (n : Nat) (xs : List (Int × Nat)) (hs : a.eval s = v) (hm : FR G B w1 v n xs) (b m c : Nat) (ys : List (Int × Nat)) (hsl : FR G B' w1 (.slice (some ⟨b, 0, none⟩) m c) m ys)
    (hx : a.eval x = .slice (some ⟨b, 0, none⟩) m c) (h0 : 0 < m) (hr : n + m ≤ 1000) (hbase : B ≤ w1.heap.size)
    (h : ∀ g cap w', FR G B w' (.slice (some ⟨g, 0, none⟩) (n + m) cap) (n + m) (xs ++ ys) → w1.grownBy w' v.ownBlock → (v.ownBlock = some g ∨ g = w1.heap.size) → K (a.put o.dst (.slice (some ⟨g, 0, none⟩) (n + m) cap)) w') :
    Oper.wp Tryd.prog o a w1 K Q := by
  obtain ⟨i, hi, hz0, hz1, hz2⟩ := info3_parts info_field
  refine wp_append_lies w1 s x 60 ho B 65 i _ 2 16 Tryd.underlying60 hi hz0 hz1 hz2 rfl (by decide) v n _ hs hm.own ⟨b, 0, none⟩ m c (fCells G ys) hx (by rw [fCells_len, hsl.len]; omega) ?_ (fCells_one G ys) h0 (by unfold maxLen; omega) (by omega) hbase w1.heap.size rfl ?_
  · intro j u hj
    have hplain : (⟨b, 0, none⟩ : Addr).add j = ⟨b, j, none⟩ := by unfold Addr.add; split <;> simp_all
    rw [hplain]
    have hjl : j < m * 2 := by
      rcases Nat.lt_or_ge j (m * 2) with h | h
      · exact h
      · rw [List.getElem?_eq_none (by rw [fCells_len, hsl.len]; omega)] at hj; cases hj
    rw [hsl.own.cellAt j hjl]; exact hj
  · intro g cap w' h1 h2 h3 _
    exact h g cap w' ⟨by rw [fCells_app]; exact h1, hr⟩ h2 h3
theorem wpList_append_fr {w1 : World} {ops : Array Oper} {rest : List Oper} {o : Oper} {a : Act} {Q : Exit → Act → World → Prop} (hgd : o.guard = none) (s x : Operand) (ho : o.op = .call { callee := .builtin .append, args := #[s, x], argTypes := #[60, 60] })
    (G B B' : Nat) (v : Value) (n : Nat) (xs : List (Int × Nat)) (hs : a.eval s = v) (hm : FR G B w1 v n xs) (b m c : Nat) (ys : List (Int × Nat)) (hsl : FR G B' w1 (.slice (some ⟨b, 0, none⟩) m c) m ys)
    (hx : a.eval x = .slice (some ⟨b, 0, none⟩) m c) (h0 : 0 < m) (hr : n + m ≤ 1000) (hbase : B ≤ w1.heap.size)
    (h : ∀ g cap w', FR G B w' (.slice (some ⟨g, 0, none⟩) (n + m) cap) (n + m) (xs ++ ys) → w1.grownBy w' v.ownBlock → (v.ownBlock = some g ∨ g = w1.heap.size) → wpList Tryd.prog ops Q rest (a.put o.dst (.slice (some ⟨g, 0, none⟩) (n + m) cap)) w') :
    wpList Tryd.prog ops Q (o :: rest) a w1 :=
  wpList_plain hgd fun _ hK => wp_append_fr s x ho G B B' v n xs hs hm b m c ys hsl hx h0 hr hbase fun g cap w' h1 h2 h3 => hK _ _ (h g cap w' h1 h2 h3)
theorem step_append_fr {w1 : World} {ops : Array Oper} {o : Oper} {a : Act} {K : Act → World → Prop} {Q : Exit → Act → World → Prop} {F : Prop} (hgd : o.guard = none) (s x : Operand) (ho : o.op = .call { callee := .builtin .append, args := #[s, x], argTypes := #[60, 60] })
    (G B B' : Nat) (v : Value) (n : Nat) (xs : List (Int × Nat)) (hs : a.eval s = v) (hm : FR G B w1 v n xs) (b m c : Nat) (ys : List (Int × Nat)) (hsl : FR G B' w1 (.slice (some ⟨b, 0, none⟩) m c) m ys)
    (hx : a.eval x = .slice (some ⟨b, 0, none⟩) m c) (h0 : 0 < m) (hr : n + m ≤ 1000) (hbase : B ≤ w1.heap.size)
    (h : ∀ g cap w', FR G B w' (.slice (some ⟨g, 0, none⟩) (n + m) cap) (n + m) (xs ++ ys) → w1.grownBy w' v.ownBlock → (v.ownBlock = some g ∨ g = w1.heap.size) → K (a.put o.dst (.slice (some ⟨g, 0, none⟩) (n + m) cap)) w') :
    if Region.wanted o (yielded ops a.tmps) = true then Oper.wp Tryd.prog o a w1 K Q else F := by
  have hw : Region.wanted o (yielded ops a.tmps) = true := by simp [Region.wanted, hgd]
  rw [if_pos hw]
  exact wp_append_fr s x ho G B B' v n xs hs hm b m c ys hsl hx h0 hr hbase h
end Go.Proofs.YtkhcfmnebflgkaaDoor
/-
  The document's own Peek of layer 8.
-/
namespace Go.Proofs.YtkhcfmnebflgkaaDoor
open Go Go.RowKit

/-- the format that a byte begins, behind a byte of context or not; 0: none -/
def fmtOf (c x : Int) : Int := if c < 128 then 1 else if c < 192 then 2 else if c = 192 then 3 else if c = 193 then 3 else if c = 208 then 4 else if c = 209 then 5 else if c = 210 ∧ x = 0 then 6 else 0
def peekAt (c x : Int) : Int × Int × Int := if fmtOf c x = 0 then (0, 0, 4) else (x, fmtOf c x, 0)
def peekV (zs : List Int) : Int × Int × Int :=
  if zs.length = 0 then (0, 0, 5)
  else if zs.getD 0 0 / 16 = 14 then (if zs.length = 1 then (0, 0, 5) else if zs.getD 0 0 % 16 = 0 then (0, 0, 4) else peekAt (zs.getD 1 0) (zs.getD 0 0 % 16))
  else peekAt (zs.getD 0 0) 0
theorem ret_three {a b c : Int} {p : Int × Int × Int} (h : p = (a, b, c)) : Ending.returned (.tuple #[.int .i64 a, .int .i64 b, .int .i64 c]) = .returned (.tuple #[.int .i64 p.1, .int .i64 p.2.1, .int .i64 p.2.2]) := by rw [h]

set_option maxHeartbeats 3200000 in
theorem rPeek_any (a : Option Addr) (n cap : Nat) (zs : List Int) (w : World) (hs : Sl .u8 w a n zs) :
    Calls Tryd.prog 22 #[.slice a n cap] w fun e w' => e = .returned (.tuple #[.int .i64 (peekV zs).1, .int .i64 (peekV zs).2.1, .int .i64 (peekV zs).2.2]) ∧ w = w' := by
  have hl := hs.len
  have hr := hs.reach
  by_cases h0 : n = 0
  · subst h0
    have HP : Hid (peekV zs = (0, 0, 5)) := by show _ = _; unfold peekV; rw [if_pos hl]
    clear hs
    go_enter Tryd.func22, Tryd.ntmps22
    go_wp2_with fail
    go_ret3
    exact ⟨ret_three HP.out, rfl⟩
  · obtain ⟨b, off, rfl⟩ := hs.head (by omega)
    have c0 := hs.at (i := 0) (by omega)
    rw [Nat.add_zero] at c0
    have z0 := hs.u8 0
    have hn0 : ((n : Int) == 0) = false := by simp; omega
    have HP : Hid (peekV zs = if zs.getD 0 0 / 16 = 14 then (if n = 1 then (0, 0, 5) else if zs.getD 0 0 % 16 = 0 then (0, 0, 4) else peekAt (zs.getD 1 0) (zs.getD 0 0 % 16)) else peekAt (zs.getD 0 0) 0) := by show _ = _; unfold peekV; rw [if_neg (by omega), hl]
    by_cases hc : zs.getD 0 0 / 16 = 14
    · rw [if_pos hc] at HP
      have hc2 : (zs.getD 0 0 / 16 == 14) = true := by simpa using hc
      by_cases h1 : n = 1
      · rw [if_pos h1] at HP
        have hn1 : ((n : Int) == 1) = true := by simp; omega
        generalize zs.getD 0 0 = c at c0 z0 hc2 HP
        generalize peekV zs = p at HP ⊢
        clear hs hc hl h1
        go_enter Tryd.func22, Tryd.ntmps22
        go_wp2_with fail
        go_ret3
        exact ⟨ret_three HP.out, rfl⟩
      · rw [if_neg h1] at HP
        have hn1 : ((n : Int) == 1) = false := by simp; omega
        have c1 := hs.at (i := 1) (by omega)
        have z1 := hs.u8 1
        have h1n : (1 : Int) < (n : Int) := by omega
        generalize zs.getD 0 0 = c at c0 z0 hc2 HP
        generalize zs.getD 1 0 = y at c1 z1 HP
        generalize peekV zs = p at HP ⊢
        clear hs hc hl h1
        go_enter Tryd.func22, Tryd.ntmps22
        go_wp2_with fail
        all_goals go_ret3
        all_goals refine ⟨ret_three (HP.out.trans ?_), rfl⟩
        all_goals first
          | (simp [peekAt, fmtOf]; done)
          | (simp_all [peekAt, fmtOf]; done)
          | (unfold peekAt fmtOf; (repeat' split) <;> simp_all <;> omega)
    · rw [if_neg hc] at HP
      generalize zs.getD 0 0 = c at c0 z0 hc HP
      generalize peekV zs = p at HP ⊢
      have hc2 : (c / 16 == 14) = false := by simpa using hc
      clear hs hc hl
      go_enter Tryd.func22, Tryd.ntmps22
      go_wp2_with fail
      all_goals go_ret3
      all_goals refine ⟨ret_three (HP.out.trans ?_), rfl⟩
      all_goals first
        | (simp [peekAt, fmtOf]; done)
        | (simp_all [peekAt, fmtOf]; done)
        | (unfold peekAt fmtOf; (repeat' split) <;> simp_all <;> omega)
end Go.Proofs.YtkhcfmnebflgkaaDoor
/-
  take of the document's reader (layer 8): the number in the next bytes.
-/
namespace Go.Proofs.YtkhcfmnebflgkaaDoor
open Go Go.RowKit

/-- the reader's block -/
def Rd (W : World) (g : Nat) (a : Option Addr) (n cap : Nat) (sh : Bool) : Prop := W.heap[g]? = some (.cells #[.slice a n cap, .bool sh] 85 (0, 0))

set_option maxRecDepth 100000 in
set_option maxHeartbeats 3200000 in
theorem take_short (g : Nat) (a : Option Addr) (n cap m : Nat) (mi : Int) (sh : Bool) (w : World) (hr : Rd w g a n cap sh) (hmi : mi = m) (hn : n < m) :
    Calls Tryd.prog 55 #[.pointer (some ⟨g, 0, none⟩), .int .i64 mi] w fun e w' => e = .returned (.int .i64 0) ∧ Rd w' g none 0 0 true ∧ w.grownBy w' (some g) := by
  subst hmi
  have c0 := cells_of hr 0
  have c1 := cells_of hr 1
  have f0 := frozen_of hr 0
  have f1 := frozen_of hr 1
  have HB := Lib.hid (blk_set (blk_set hr 1 (.bool true)) 0 (.slice none 0 0))
  clear hr
  go_enter Tryd.func55, Tryd.ntmps55
  go_wp2_with fail
  go_ret
  exact ⟨rfl, HB.out, grown_self (grown_self (World.grownBy.refl _ _) _ _) _ _⟩

set_option maxRecDepth 100000 in
set_option maxHeartbeats 3200000 in
theorem take_ok (g b off n cap m : Nat) (mi : Int) (zs : List Int) (sh : Bool) (w : World) (hr : Rd w g (some ⟨b, off, none⟩) n cap sh) (hs : Sl .u8 w (some ⟨b, off, none⟩) n zs) (hmi : mi = m) (hn : m ≤ n) (hc : n ≤ cap) (hm : 1 ≤ m ∧ m ≤ 7) :
    Calls Tryd.prog 55 #[.pointer (some ⟨g, 0, none⟩), .int .i64 mi] w fun e w' => e = .returned (.int .i64 (getB zs 0 m)) ∧ (∃ p, Rd w' g (some p) (n - m) (cap - m) sh ∧ (m < n → p = ⟨b, off + m, none⟩)) ∧ w.grownBy w' (some g) := by
  subst hmi
  have hre := hs.reach
  have c0 := cells_of hr 0
  have c1 := cells_of hr 1
  have f0 := frozen_of hr 0
  have HG := Lib.hid (Get_lit (some ⟨b, off, none⟩) n cap 0 m 0 m zs w hs rfl rfl hm.2 (by omega))
  generalize getB zs 0 m = q at HG ⊢
  have HR := Lib.hid hr
  clear hr hs
  go_enter Tryd.func55, Tryd.ntmps55
  go_wp2_with (first | (go_at_call 69; refine HG.out.mono ?_; rintro e w' ⟨rfl, rfl⟩) | fail)
  · go_ret
    refine ⟨rfl, ⟨⟨b, off, none⟩, ?_, fun h => by omega⟩, grown_self (World.grownBy.refl _ _) _ _⟩
    exact blk_set HR.out 0 _
  · go_ret
    exact ⟨rfl, ⟨⟨b, off + m, none⟩, blk_set HR.out 0 _, fun _ => rfl⟩, grown_self (World.grownBy.refl _ _) _ _⟩
end Go.Proofs.YtkhcfmnebflgkaaDoor
/-
  The document's reader (layer 8) in any state: how many bytes it has taken, or there were too few.
-/
namespace Go.Proofs.YtkhcfmnebflgkaaDoor
open Go Go.RowKit

theorem getB_drop0 (zs : List Int) (p : Nat) : ∀ m, getB (zs.drop p) 0 m = getB zs p m
  | 0 => rfl
  | m + 1 => by simp only [getB, getB_drop0 zs p m, Nat.zero_add]; congr 1; simp [List.getD_eq_getElem?_getD, List.getElem?_drop]
/-- the reader in block g has been asked for p bytes of zs -/
structure TKS (L : Nat) (W : World) (g : Nat) (zs : List Int) (p : Nat) : Prop where
  ex : ∃ a n cap, Rd W g a n cap (decide (zs.length < p)) ∧ Sl .u8 W a n (zs.drop p) ∧ n ≤ cap ∧ (a = none → cap = 0) ∧ (∀ x, a = some x → 0 < n → x.block < L)
/-- what the reader answers -/
def tv (zs : List Int) (p m : Nat) : Int := if p + m ≤ zs.length then getB zs p m else 0
theorem tv_ok {zs : List Int} {p m : Nat} (h : p + m ≤ zs.length) : tv zs p m = getB zs p m := if_pos h
theorem tv_no {zs : List Int} {p m : Nat} (h : ¬ p + m ≤ zs.length) : tv zs p m = 0 := if_neg h
theorem TKS.lt {W : World} {L g : Nat} {zs : List Int} {p : Nat} (h : TKS L W g zs p) : g < W.heap.size := by
  obtain ⟨a, n, cap, hr, _⟩ := h.ex
  exact lt_of_block hr
theorem TKS.keep {W W' : World} {L g : Nat} {zs : List Int} {p : Nat} (h : TKS L W g zs p) (hb : Below W.heap.size W W') : TKS L W' g zs p := by
  obtain ⟨a, n, cap, hr, hs, r⟩ := h.ex
  exact ⟨a, n, cap, (hb.block _ (lt_of_block hr)).trans hr, hs.keep hb, r⟩
/-- .. where a row has turned in which neither the reader nor its bytes lie -/
theorem TKS.keepRow {W W' : World} {L g : Nat} {zs : List Int} {p : Nat} {row : Option Nat} (h : TKS L W g zs p) (hb : W.grownBy W' row) (hg : row ≠ some g) (hr : ∀ r, row = some r → L ≤ r) : TKS L W' g zs p := by
  obtain ⟨a, n, cap, hr1, hs, h1, h2, h3⟩ := h.ex
  exact ⟨a, n, cap, (hb.block _ (lt_of_block hr1) (fun e => hg e.symm)).trans hr1, hs.keepRow hb (fun x hx hn e => by have := h3 x hx hn; have := hr _ e.symm; omega), h1, h2, h3⟩

set_option maxRecDepth 100000 in
theorem take_any (L g p m : Nat) (mi : Int) (zs : List Int) (w : World) (h : TKS L w g zs p) (hL : L ≤ g) (hmi : mi = m) (hm : 1 ≤ m ∧ m ≤ 7) :
    Calls Tryd.prog 55 #[.pointer (some ⟨g, 0, none⟩), .int .i64 mi] w fun e w' => e = .returned (.int .i64 (tv zs p m)) ∧ TKS L w' g zs (p + m) ∧ w.grownBy w' (some g) := by
  obtain ⟨a, n, cap, hr, hs, hc, hn, hb⟩ := h.ex
  have hl := hs.len
  have hrc := hs.reach
  rw [List.length_drop] at hl
  by_cases ok : p + m ≤ zs.length
  · have hd : decide (zs.length < p) = false := decide_eq_false (by omega)
    have hd2 : decide (zs.length < p + m) = false := decide_eq_false (by omega)
    obtain ⟨b, off, rfl⟩ := hs.head (by omega)
    have hbg := hb _ rfl (by omega)
    rw [hd] at hr
    refine (take_ok g b off n cap m mi (zs.drop p) false w hr hs hmi (by omega) hc hm).mono ?_
    rintro e w' ⟨rfl, ⟨q, hq, hqe⟩, hg⟩
    refine ⟨by rw [getB_drop0, tv_ok ok], ⟨some q, n - m, cap - m, by rw [hd2]; exact hq, ?_, by omega, (fun h => by cases h), ?_⟩, hg⟩
    · by_cases hlt : m < n
      · rw [hqe hlt]
        have hs' := hs.keepRow hg (fun x hx _ e => by cases hx; have := Option.some.inj e; simp only at this hbg; omega)
        have q := hs'.sub m (n - m) (by omega)
        rw [List.take_of_length_le (by simp; omega), List.drop_drop] at q
        exact q
      · have e0 : n - m = 0 := by omega
        have e1 : zs.drop (p + m) = [] := List.drop_eq_nil_of_le (by omega)
        rw [e0, e1]
        exact ⟨rfl, by omega, by simp, fun i hi => by omega⟩
    · intro x hx h0
      rw [hqe (by omega)] at hx
      cases hx
      exact hbg
  · have hd2 : decide (zs.length < p + m) = true := decide_eq_true (by omega)
    refine (take_short g a n cap m mi _ w hr hmi (by omega)).mono ?_
    rintro e w' ⟨rfl, hr2, hg⟩
    refine ⟨by rw [tv_no ok], ⟨none, 0, 0, by rw [hd2]; exact hr2, ?_, Nat.le_refl _, fun _ => rfl, fun x hx => by cases hx⟩, hg⟩
    rw [List.drop_eq_nil_of_le (by omega)]
    exact ⟨rfl, by omega, by simp, fun i hi => by omega⟩
end Go.Proofs.YtkhcfmnebflgkaaDoor
/-
  whole of the document's reader (layer 8): the dynamic part read into a packet in parts. (gen_whole.py writes this text.)
-/
namespace Go.Proofs.YtkhcfmnebflgkaaDoor
open Go Go.RowKit

/-- the reader in block R, a packet in parts in block G; nothing below L has turned since w -/
structure WS (L : Nat) (w W : World) (R G : Nat) (zs : List Int) (p : Nat) (s : Sm) : Prop where
  t : TKS L W R zs p
  g : W.heap[G]? = some (.cells #[.int .i64 s.ctx, .int .i64 s.fmt, .int .i64 s.num, .int .i64 s.time, .int .i64 s.mark, .int .i64 s.id, .int .i64 s.udp, .int .i64 s.h.kind, .int .i64 s.h.tos, .int .i64 s.h.id, .int .i64 s.h.fixed, .int .i64 s.h.ttl, .int .i64 s.h.frm, .int .i64 s.h.to, .int .i64 s.h.fromPort, .int .i64 s.h.toPort, .int .i64 s.h.check, .int .i64 s.h.marker, .int .i64 s.h.type, .int .i64 s.h.seq, .int .i64 s.h.time, .int .i64 s.h.source, .int .i64 s.ds, .int .i64 s.df, .int .i64 s.chk, .slice s.pa s.pn s.pc] 28 (0, 0))
  b : Below L w W
theorem WS.took {L : Nat} {w W W' : World} {R G : Nat} {zs : List Int} {p q : Nat} {s : Sm} (h : WS L w W R G zs p s) (ht : TKS L W' R zs q) (hg : W.grownBy W' (some R)) (hne : R ≠ G) (hR : L ≤ R) (hw : L ≤ w.heap.size) : WS L w W' R G zs q s :=
  ⟨ht, (hg.block _ (lt_of_block h.g) (fun e => hne (Option.some.inj e).symm)).trans h.g, h.b.trans (Below.of_row hg (fun g e => by rw [← Option.some.inj e]; exact hR) (Nat.le_trans hw h.b.size))⟩
/-- stores into the packet -/
theorem WS.put {L : Nat} {w W W' : World} {R G : Nat} {zs : List Int} {p : Nat} {s s' : Sm} (h : WS L w W R G zs p s) (hg : W.grownBy W' (some G)) (hc : W'.heap[G]? = some (.cells #[.int .i64 s'.ctx, .int .i64 s'.fmt, .int .i64 s'.num, .int .i64 s'.time, .int .i64 s'.mark, .int .i64 s'.id, .int .i64 s'.udp, .int .i64 s'.h.kind, .int .i64 s'.h.tos, .int .i64 s'.h.id, .int .i64 s'.h.fixed, .int .i64 s'.h.ttl, .int .i64 s'.h.frm, .int .i64 s'.h.to, .int .i64 s'.h.fromPort, .int .i64 s'.h.toPort, .int .i64 s'.h.check, .int .i64 s'.h.marker, .int .i64 s'.h.type, .int .i64 s'.h.seq, .int .i64 s'.h.time, .int .i64 s'.h.source, .int .i64 s'.ds, .int .i64 s'.df, .int .i64 s'.chk, .slice s'.pa s'.pn s'.pc] 28 (0, 0))) (hne : R ≠ G) (hG : L ≤ G) (hw : L ≤ w.heap.size) : WS L w W' R G zs p s' :=
  ⟨h.t.keepRow hg (fun e => hne (Option.some.inj e).symm) (fun r e => by rw [← Option.some.inj e]; exact hG), hc, h.b.trans (Below.of_row hg (fun g e => by rw [← Option.some.inj e]; exact hG) (Nat.le_trans hw h.b.size))⟩

def whA (zs : List Int) (p : Nat) (s : Sm) : Sm := { s with h := { s.h with tos := tv zs p 1, ttl := tv zs (p + 1) 1 } }
def whB (F : Int) (s : Sm) : Sm := { s with h := { s.h with fixed := F / 128 % 2, marker := F / 16 % 2 }, df := F / 32 % 2 }
/-- the packet with the fields of a dynamic part of kind 1 read from p on -/
def whl1 (zs : List Int) (p : Nat) (s : Sm) : Sm := { whB (tv zs (p + 2) 1) (whA zs p s) with h := { (whB (tv zs (p + 2) 1) (whA zs p s)).h with id := tv zs (p + 3) 2 } }
def whl2 (zs : List Int) (p : Nat) (s : Sm) : Sm := { whB (tv zs (p + 2) 1) (whA zs p s) with h := { (whB (tv zs (p + 2) 1) (whA zs p s)).h with type := tv zs (p + 3) 1, seq := tv zs (p + 4) 2, id := tv zs (p + 6) 2, time := tv zs (p + 8) 4 }, ds := tv zs (p + 12) 2 }
theorem tv_byte {zs : List Int} (hz : Bytes zs) (p : Nat) : 0 ≤ tv zs p 1 ∧ tv zs p 1 ≤ 255 := by
  unfold tv
  split
  · have := hz p; simpa [getB] using this
  · omega

set_option maxRecDepth 100000 in
set_option maxHeartbeats 3200000 in
theorem whole_1 (L R G p : Nat) (zs : List Int) (s : Sm) (w0 w : World) (h : WS L w0 w R G zs p s) (hz : Bytes zs) (hk : s.h.kind = 1) (hR : L ≤ R) (hG : L ≤ G) (hne : R ≠ G) (hw : L ≤ w0.heap.size) :
    Calls Tryd.prog 56 #[.pointer (some ⟨R, 0, none⟩), .pointer (some ⟨G, 0, none⟩)] w fun e w' => e = .returned (.int .i64 (tv zs (p + 2) 1)) ∧ WS L w0 w' R G zs (p + 5) (whl1 zs p s) := by
  have H0 := Lib.hid h
  have KK : (s.h.kind == 1) = true := by rw [hk]; rfl
  have KA : ((whA zs p s).h.kind == 1) = true := KK
  have hRG : G ≠ R := fun e => hne e.symm
  have T3 := tv_byte hz (p + 2)
  clear h hk hz
  go_enter Tryd.func56, Tryd.ntmps56
  go_wp2_with (first
    | (go_at_call 55; ((with_reducible refine (take_any L R p 1 _ zs _ H0.out.t hR (by first | rfl | omega) (by decide)).mono ?_); rintro e w1 ⟨rfl, ht, hg⟩; have H1 := Lib.hid (H0.out.took ht hg hne hR hw); have c1 := cells_of H1.out.g; have f1 := frozen_of H1.out.g; clear ht hg H0))
    | (go_at_call 55; ((with_reducible refine (take_any L R (p + 1) 1 _ zs _ H1.out.t hR (by first | rfl | omega) (by decide)).mono ?_); rintro e w2 ⟨rfl, ht, hg⟩; have H2 := Lib.hid (H1.out.took ht hg hne hR hw); have c2 := cells_of H2.out.g; have f2 := frozen_of H2.out.g; clear ht hg H1))
    | (go_at_call 55; have q := (blk_set (blk_set H2.out.g 8 (.int .i64 (tv zs p 1))) 11 (.int .i64 (tv zs (p + 1) 1))); simp only [List.setIfInBounds_toArray, List.set_cons_succ, List.set_cons_zero] at q; replace H2 := Lib.hid (H2.out.put (s' := whA zs p s) (grown_self ((grown_self (World.grownBy.refl _ _) _ _)) _ _) q hne hG hw); clear q c2 f2; ((with_reducible refine (take_any L R (p + 2) 1 _ zs _ H2.out.t hR (by first | rfl | omega) (by decide)).mono ?_); rintro e w3 ⟨rfl, ht, hg⟩; have H3 := Lib.hid (H2.out.took ht hg hne hR hw); have c3 := cells_of H3.out.g; have f3 := frozen_of H3.out.g; clear ht hg H2))
    | (go_at_call 55; rw [i64_and_one (tv zs (p + 2) 1 / 128) (by omega) (by omega)]; rw [i64_and_one (tv zs (p + 2) 1 / 32) (by omega) (by omega)]; rw [i64_and_one (tv zs (p + 2) 1 / 16) (by omega) (by omega)]; have q := (blk_set (blk_set (blk_set H3.out.g 10 (.int .i64 (tv zs (p + 2) 1 / 128 % 2))) 23 (.int .i64 (tv zs (p + 2) 1 / 32 % 2))) 17 (.int .i64 (tv zs (p + 2) 1 / 16 % 2))); simp only [List.setIfInBounds_toArray, List.set_cons_succ, List.set_cons_zero] at q; replace H3 := Lib.hid (H3.out.put (s' := whB (tv zs (p + 2) 1) (whA zs p s)) (grown_self ((grown_self ((grown_self (World.grownBy.refl _ _) _ _)) _ _)) _ _) q hne hG hw); clear q c3 f3; ((with_reducible refine (take_any L R (p + 3) 2 _ zs _ H3.out.t hR (by first | rfl | omega) (by decide)).mono ?_); rintro e w4 ⟨rfl, ht, hg⟩; have H4 := Lib.hid (H3.out.took ht hg hne hR hw); have c4 := cells_of H4.out.g; have f4 := frozen_of H4.out.g; clear ht hg H3))
    | fail)
  go_ret
  have q := (blk_set H4.out.g 9 (.int .i64 (tv zs (p + 3) 2)))
  simp only [List.setIfInBounds_toArray, List.set_cons_succ, List.set_cons_zero] at q
  replace H4 := Lib.hid (H4.out.put (s' := whl1 zs p s) (grown_self (World.grownBy.refl _ _) _ _) q hne hG hw)
  clear q c4 f4
  exact ⟨rfl, H4.out⟩

set_option maxRecDepth 100000 in
set_option maxHeartbeats 3200000 in
theorem whole_2 (L R G p : Nat) (zs : List Int) (s : Sm) (w0 w : World) (h : WS L w0 w R G zs p s) (hz : Bytes zs) (hk : s.h.kind ≠ 1) (hR : L ≤ R) (hG : L ≤ G) (hne : R ≠ G) (hw : L ≤ w0.heap.size) :
    Calls Tryd.prog 56 #[.pointer (some ⟨R, 0, none⟩), .pointer (some ⟨G, 0, none⟩)] w fun e w' => e = .returned (.int .i64 (tv zs (p + 2) 1)) ∧ WS L w0 w' R G zs (p + 14) (whl2 zs p s) := by
  have H0 := Lib.hid h
  have KK : (s.h.kind == 1) = false := by simpa using hk
  have KA : ((whA zs p s).h.kind == 1) = false := KK
  have hRG : G ≠ R := fun e => hne e.symm
  have T3 := tv_byte hz (p + 2)
  clear h hk hz
  go_enter Tryd.func56, Tryd.ntmps56
  go_wp2_with (first
    | (go_at_call 55; ((with_reducible refine (take_any L R p 1 _ zs _ H0.out.t hR (by first | rfl | omega) (by decide)).mono ?_); rintro e w1 ⟨rfl, ht, hg⟩; have H1 := Lib.hid (H0.out.took ht hg hne hR hw); have c1 := cells_of H1.out.g; have f1 := frozen_of H1.out.g; clear ht hg H0))
    | (go_at_call 55; ((with_reducible refine (take_any L R (p + 1) 1 _ zs _ H1.out.t hR (by first | rfl | omega) (by decide)).mono ?_); rintro e w2 ⟨rfl, ht, hg⟩; have H2 := Lib.hid (H1.out.took ht hg hne hR hw); have c2 := cells_of H2.out.g; have f2 := frozen_of H2.out.g; clear ht hg H1))
    | (go_at_call 55; have q := (blk_set (blk_set H2.out.g 8 (.int .i64 (tv zs p 1))) 11 (.int .i64 (tv zs (p + 1) 1))); simp only [List.setIfInBounds_toArray, List.set_cons_succ, List.set_cons_zero] at q; replace H2 := Lib.hid (H2.out.put (s' := whA zs p s) (grown_self ((grown_self (World.grownBy.refl _ _) _ _)) _ _) q hne hG hw); clear q c2 f2; ((with_reducible refine (take_any L R (p + 2) 1 _ zs _ H2.out.t hR (by first | rfl | omega) (by decide)).mono ?_); rintro e w3 ⟨rfl, ht, hg⟩; have H3 := Lib.hid (H2.out.took ht hg hne hR hw); have c3 := cells_of H3.out.g; have f3 := frozen_of H3.out.g; clear ht hg H2))
    | (go_at_call 55; rw [i64_and_one (tv zs (p + 2) 1 / 128) (by omega) (by omega)]; rw [i64_and_one (tv zs (p + 2) 1 / 32) (by omega) (by omega)]; rw [i64_and_one (tv zs (p + 2) 1 / 16) (by omega) (by omega)]; have q := (blk_set (blk_set (blk_set H3.out.g 10 (.int .i64 (tv zs (p + 2) 1 / 128 % 2))) 23 (.int .i64 (tv zs (p + 2) 1 / 32 % 2))) 17 (.int .i64 (tv zs (p + 2) 1 / 16 % 2))); simp only [List.setIfInBounds_toArray, List.set_cons_succ, List.set_cons_zero] at q; replace H3 := Lib.hid (H3.out.put (s' := whB (tv zs (p + 2) 1) (whA zs p s)) (grown_self ((grown_self ((grown_self (World.grownBy.refl _ _) _ _)) _ _)) _ _) q hne hG hw); clear q c3 f3; ((with_reducible refine (take_any L R (p + 3) 1 _ zs _ H3.out.t hR (by first | rfl | omega) (by decide)).mono ?_); rintro e w4 ⟨rfl, ht, hg⟩; have H4 := Lib.hid (H3.out.took ht hg hne hR hw); have c4 := cells_of H4.out.g; have f4 := frozen_of H4.out.g; clear ht hg H3))
    | (go_at_call 55; ((with_reducible refine (take_any L R (p + 4) 2 _ zs _ H4.out.t hR (by first | rfl | omega) (by decide)).mono ?_); rintro e w5 ⟨rfl, ht, hg⟩; have H5 := Lib.hid (H4.out.took ht hg hne hR hw); have c5 := cells_of H5.out.g; have f5 := frozen_of H5.out.g; clear ht hg H4))
    | (go_at_call 55; ((with_reducible refine (take_any L R (p + 6) 2 _ zs _ H5.out.t hR (by first | rfl | omega) (by decide)).mono ?_); rintro e w6 ⟨rfl, ht, hg⟩; have H6 := Lib.hid (H5.out.took ht hg hne hR hw); have c6 := cells_of H6.out.g; have f6 := frozen_of H6.out.g; clear ht hg H5))
    | (go_at_call 55; have q := (blk_set (blk_set (blk_set H6.out.g 18 (.int .i64 (tv zs (p + 3) 1))) 19 (.int .i64 (tv zs (p + 4) 2))) 9 (.int .i64 (tv zs (p + 6) 2))); simp only [List.setIfInBounds_toArray, List.set_cons_succ, List.set_cons_zero] at q; replace H6 := Lib.hid (H6.out.put (s' := { whB (tv zs (p + 2) 1) (whA zs p s) with h := { (whB (tv zs (p + 2) 1) (whA zs p s)).h with type := tv zs (p + 3) 1, seq := tv zs (p + 4) 2, id := tv zs (p + 6) 2 } }) (grown_self ((grown_self ((grown_self (World.grownBy.refl _ _) _ _)) _ _)) _ _) q hne hG hw); clear q c6 f6; ((with_reducible refine (take_any L R (p + 8) 4 _ zs _ H6.out.t hR (by first | rfl | omega) (by decide)).mono ?_); rintro e w7 ⟨rfl, ht, hg⟩; have H7 := Lib.hid (H6.out.took ht hg hne hR hw); have c7 := cells_of H7.out.g; have f7 := frozen_of H7.out.g; clear ht hg H6))
    | (go_at_call 55; ((with_reducible refine (take_any L R (p + 12) 2 _ zs _ H7.out.t hR (by first | rfl | omega) (by decide)).mono ?_); rintro e w8 ⟨rfl, ht, hg⟩; have H8 := Lib.hid (H7.out.took ht hg hne hR hw); have c8 := cells_of H8.out.g; have f8 := frozen_of H8.out.g; clear ht hg H7))
    | fail)
  go_ret
  have q := (blk_set (blk_set H8.out.g 20 (.int .i64 (tv zs (p + 8) 4))) 22 (.int .i64 (tv zs (p + 12) 2)))
  simp only [List.setIfInBounds_toArray, List.set_cons_succ, List.set_cons_zero] at q
  replace H8 := Lib.hid (H8.out.put (s' := whl2 zs p s) (grown_self ((grown_self (World.grownBy.refl _ _) _ _)) _ _) q hne hG hw)
  clear q c8 f8
  exact ⟨rfl, H8.out⟩
end Go.Proofs.YtkhcfmnebflgkaaDoor
