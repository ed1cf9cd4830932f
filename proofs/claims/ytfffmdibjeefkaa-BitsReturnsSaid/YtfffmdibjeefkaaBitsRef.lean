/-
  What the document's own Read, and the comparison of bytes, return.
-/
import Derived.Test.YtfffmdibjeefkaaBitsRead
import Derived.Test.YtfffmdibjeefkaaMk
namespace Go.Proofs.Ytfffmdibjeefkaa
open Go Go.RowKit

set_option maxHeartbeats 800000 in
theorem refRead_any (a : Option Addr) (len cap : Nat) (p n : Int) (zs : List Int) (w : World) (hs : Sl .u8 w a len zs) (h1 : p ≤ 9223372036854775807) :
    Calls Try.prog 10 #[.slice a len cap, .int .i64 p, .int .i64 n] w fun e w' => e = .returned (.tuple #[.int .i64 (readV zs p n), .int .i64 (readE zs p n)]) ∧ w = w' := by
  have hl := hs.reach
  have hz := hs.len
  by_cases hr : n < 0 ∨ 32 < n ∨ p < 0
  · have hv : readV zs p n = 0 := by unfold readV; rw [if_pos (by omega)]
    have he : readE zs p n = 3 := by unfold readE; rw [if_pos (by omega)]
    rw [hv, he]
    clear hv he hz
    by_cases h0 : n < 0
    · go_enter Try.func10, Try.ntmps10
      go_wp2
      go_ret2
      exact ⟨rfl, rfl⟩
    · by_cases h2 : 32 < n
      · go_enter Try.func10, Try.ntmps10
        go_wp2
        go_ret2
        exact ⟨rfl, rfl⟩
      · have h3 : p < 0 := by omega
        clear hr
        go_enter Try.func10, Try.ntmps10
        go_wp2
        go_ret2
        exact ⟨rfl, rfl⟩
  · by_cases hb : 8 * (len : Int) < p + n
    · have hv : readV zs p n = 0 := by unfold readV; rw [if_neg (by omega), if_pos (by omega)]
      have he : readE zs p n = 5 := by unfold readE; rw [if_neg (by omega), if_pos (by omega)]
      rw [hv, he]
      have hn0 : 0 ≤ n := by omega
      have hn1 : n ≤ 32 := by omega
      have hp0 : 0 ≤ p := by omega
      clear hv he hz hr
      by_cases hq : 8 * (len : Int) < p
      all_goals
        go_enter Try.func10, Try.ntmps10
        go_wp2
        go_ret2
        exact ⟨rfl, rfl⟩
    · obtain ⟨P, rfl⟩ := Int.eq_ofNat_of_zero_le (show 0 ≤ p by omega)
      obtain ⟨N, rfl⟩ := Int.eq_ofNat_of_zero_le (show 0 ≤ n by omega)
      have hv : readV zs P N = (numAt zs P N : Nat) := by unfold readV; rw [if_neg (by omega), if_neg (by omega)]; simp
      have he : readE zs P N = 0 := by unfold readE; rw [if_neg (by omega), if_neg (by omega)]
      rw [hv, he]
      have hn1 : N ≤ 32 := by omega
      clear hv he hz hr
      have Hs := Lib.hid hs
      clear hs
      go_enter Try.func10, Try.ntmps10
      go_wp2
      go_loop [8, 9] (fun v i => ∃ (j : Nat), j ≤ N ∧ i = .int .i64 (P + j : Nat) ∧ v = .int .i64 (numAt zs P j : Nat)) (fun _ i => P + N - (intOf i).toNat)
      case atStart => exact ⟨0, by omega, by simp, by simp [numAt]⟩
      case round =>
        obtain ⟨j, hj, rfl, rfl⟩ := hrel
        by_cases hlt : j < N
        · obtain ⟨b, off, rfl⟩ := Hs.out.head (by omega)
          have hc := Hs.out.at (i := (P + j) / 8) (by omega)
          have hz := Hs.out.u8 ((P + j) / 8)
          have hx := numAt_le32 zs P j (by omega)
          have HS : Hid (numAt zs P (j + 1) = 2 * numAt zs P j + bitAt zs (P + j)) := rfl
          have HB : Hid (bitAt zs (P + j) = (zs.getD ((P + j) / 8) 0).toNat / 2 ^ (7 - (P + j) % 8) % 2) := rfl
          generalize zs.getD ((P + j) / 8) 0 = z at hc hz HB
          generalize numAt zs P j = x at hx HS
          go_wp2
          go_round
          case rel =>
            go_light
            refine ⟨j + 1, by omega, by go_num, int_eq ?_⟩
            have h1 := HS.out
            have h2 := HB.out
            have hd : z / 2 ^ (7 - (P + j) % 8) = ((z.toNat / 2 ^ (7 - (P + j) % 8) : Nat) : Int) := by
              obtain ⟨m, rfl⟩ := Int.eq_ofNat_of_zero_le hz.1
              simp
            have hd2 : z.toNat / 2 ^ (7 - (P + j) % 8) ≤ z.toNat := Nat.div_le_self _ _
            rw [hd]
            generalize z.toNat / 2 ^ (7 - (P + j) % 8) = q at h2 hd2
            have hq := u8_and_nat q 1 (by omega) (by omega)
            rw [nat_mask1] at hq
            rw [show (1 : Int) = ((1 : Nat) : Int) from rfl, hq, IntWalk.wrap64_in (q % 2 : Nat) ⟨by omega, by omega⟩, IntWalk.wrap64_in _ ⟨by omega, by omega⟩]
            omega
          case measure => simp [intOf]; omega
        · obtain rfl : j = N := by omega
          go_wp2
          go_ret2
          exact ⟨rfl, rfl⟩

theorem Sl.bytes {w : World} {a : Option Addr} {n : Nat} {zs : List Int} (h : Sl .u8 w a n zs) : ∀ z ∈ zs, 0 ≤ z ∧ z ≤ 255 := fun z hz => by
  have := h.wf z hz
  simpa [Lit.wf, IntKind.min, IntKind.max, IntKind.signed, IntKind.bits] using this

/-- two rows of byte values with the same bytes are the same -/
theorem bytes_back : ∀ {xs ys : List Int}, (∀ z ∈ xs, 0 ≤ z ∧ z ≤ 255) → (∀ z ∈ ys, 0 ≤ z ∧ z ≤ 255) → (strOfNums xs).data.toList = (strOfNums ys).data.toList → xs = ys
  | [], [], _, _, _ => rfl
  | [], _ :: _, _, _, h => by simp [strOfNums] at h
  | _ :: _, [], _, _, h => by simp [strOfNums] at h
  | x :: xs, y :: ys, hx, hy, h => by
    simp only [strOfNums, List.map_cons, List.cons.injEq] at h
    have a := hx x (by simp)
    have b := hy y (by simp)
    have e := congrArg UInt8.toNat h.1
    simp only [UInt8.toNat_ofNat'] at e
    have := bytes_back (xs := xs) (ys := ys) (fun z hz => hx z (by simp [hz])) (fun z hz => hy z (by simp [hz])) h.2
    rw [this, show x = y by omega]

theorem same_any (a b : Option Addr) (n cap m cap' : Nat) (xs ys : List Int) (w : World) (hx : Sl .u8 w a n xs) (hy : Sl .u8 w b m ys) :
    Calls Try.prog 13 #[.slice a n cap, .slice b m cap'] w fun e w' => e = .returned (.bool (decide (xs = ys))) ∧ w = w' := by
  have c1 := run_string_of (P := Try.prog) hx cap 22 5 9 Try.underlying22 Try.underlying5 Try.underlying9
  have c2 := run_string_of (P := Try.prog) hy cap' 22 5 9 Try.underlying22 Try.underlying5 Try.underlying9
  go_enter Try.func13, Try.ntmps13
  go_wp2
  go_ret
  refine ⟨ret_bool ?_, rfl⟩
  rw [ByteArray.toList_eq, ByteArray.toList_eq, Bool.eq_iff_iff]
  simp only [beq_iff_eq, decide_eq_true_eq]
  exact ⟨fun h => bytes_back hx.bytes hy.bytes h, fun h => by rw [h]⟩
end Go.Proofs.Ytfffmdibjeefkaa
