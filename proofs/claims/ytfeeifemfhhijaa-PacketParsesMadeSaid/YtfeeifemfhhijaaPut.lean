/-
  Put of the document's own helpers (radiolinkref01): the bytes of a number behind a slice of the call's own.
-/
import Derived.Test.YtfeeifemfhhijaaPush
import Derived.Test.YtfeeifemfhhijaaProg
namespace Go.Proofs.Ytfeeifemfhhijaa
open Go Go.RowKit

/-- the first t of the M bytes of a number, from the top -/
def putB (M : Nat) (x : Int) (t : Nat) : List Int := (List.range t).map fun s => x / 2 ^ (8 * (M - 1 - s)) % 256
theorem putB_succ (M : Nat) (x : Int) (t : Nat) : putB M x (t + 1) = putB M x t ++ [x / 2 ^ (8 * (M - 1 - t)) % 256] := by
  unfold putB; rw [List.range_succ, List.map_append]; rfl
theorem putB_len (M : Nat) (x : Int) (t : Nat) : (putB M x t).length = t := by unfold putB; simp

theorem info_u8 : (Try.prog.info? 5).map (fun i => (i.zero, i.size, i.bytes)) = some (some (.int .u8 0), 1, 1) := by kernel_rfl

set_option maxRecDepth 100000 in
set_option maxHeartbeats 1600000 in
theorem Put_any (B : Nat) (a : Option Addr) (n cap M : Nat) (x : Int) (zs : List Int) (w : World) (hm : Mk .u8 5 B w (.slice a n cap) n zs) (ha : a = none → cap = 0) (hB : B ≤ w.heap.size) (hM : M ≤ 8) (hr : n + M ≤ 140737488355328) :
    Calls Try.prog 41 #[.slice a n cap, .int .i64 M, .int .i64 x] w fun e w' => ∃ ao cp, e = .returned (.slice ao (n + M) cp) ∧ Grew .u8 5 B w w' (.slice a n cap) (.slice ao (n + M) cp) (n + M) (zs ++ putB M x M) ∧ (ao = none → cp = 0) := by
  have G0 := Lib.hid (Grew.refl hm)
  have Ha := Lib.hid ha
  clear hm ha
  go_enter Try.func41, Try.ntmps41
  go_wp2
  go_loopw [0, 7] (fun v i wr => ∃ (t : Nat) (z : Int) (o : Option Addr) (p : Nat), t ≤ M ∧ z = (M : Int) - 1 - t ∧ i = .int .i64 z ∧ v = .slice o (n + t) p ∧ (o = none → p = 0) ∧ Grew .u8 5 B w wr (.slice a n cap) (.slice o (n + t) p) (n + t) (zs ++ putB M x t)) (fun _ i _ => (intOf i + 1).toNat)
  case atStart => exact ⟨0, _, a, cap, by omega, by omega, rfl, rfl, Ha.out, by simpa [putB] using G0.out⟩
  case round =>
    obtain ⟨t, z, o, p, ht, hz, rfl, rfl, ho, hg⟩ := hrel
    have hsz : B ≤ wr.heap.size := Nat.le_trans hB hg.grown.size
    have Ho := Lib.hid ho
    have Hg := Lib.hid hg
    clear ho hg
    by_cases hlt : t < M
    · obtain ⟨I, rfl⟩ := Int.eq_ofNat_of_zero_le (show 0 ≤ z by omega)
      have hI : Hid (M - 1 - t = I) := (by omega : M - 1 - t = I)
      have hI8 : I ≤ 7 := by omega
      have hI0 : (0 : Int) ≤ (I : Int) := by omega
      have S1 := Lib.hid (putB_succ M x t)
      rw [hI.out] at S1
      have W1 : Hid ((Lit.int .u8 (x / 2 ^ (8 * I) % 256)).wf = true) := Lib.hid (byte_wf (Int.emod_nonneg _ (by decide)) (by have := Int.emod_lt_of_pos (x / 2 ^ (8 * I)) (show (0 : Int) < 256 by decide); omega))
      have HZ := Lib.hid hz
      clear hz
      go_wp2_with (first
        | (at_builtin; refine wpList_push_at rfl (.tmp 14) (.tmp 21) 24 rfl .u8 5 B 1 Try.underlying24 info_u8 (.slice o (n + t) p) (n + t) (zs ++ putB M x t) rfl (Hg.out.row.alloc _) _ wr.heap.size 0 1 (Sl.one .u8 wr _ 5 W1.out) rfl (by omega) (by omega) (by simp; omega) ?_; intro g1 c1 w5 hm hg hf; rw [List.append_assoc, ← S1.out] at hm; have T5 : Hid (Grew .u8 5 B wr w5 (.slice o (n + t) p) (.slice (some ⟨g1, 0, none⟩) (n + t + 1) c1) (n + t + 1) (zs ++ putB M x (t + 1))) := Lib.hid (Grew.mk hm (grown_then (World.grownBy_alloc wr _ _) hg (fun _ h => .inl h)) (fun g h => by cases h; rcases hf with h1 | h1; exact .inl h1; exact .inr (by rw [h1]; simp))); clear hm hg hf)
        | fail)
      go_roundw
      case rel =>
        have := HZ.out
        exact ⟨t + 1, _, some ⟨g1, 0, none⟩, c1, by omega, by omega, rfl, rfl, (fun h => by cases h), Hg.out.trans T5.out⟩
      case measure => simp [intOf] <;> omega
    · obtain rfl : t = M := by omega
      have hzn : z < 0 := by omega
      go_wp2
      go_ret
      exact ⟨o, p, rfl, Hg.out, Ho.out⟩

/-- .. with the counts as they stand in a walk -/
theorem Put_lit (B : Nat) (a : Option Addr) (n cap M N : Nat) (Mi x : Int) (zs : List Int) (w : World) (hm : Mk .u8 5 B w (.slice a n cap) n zs) (ha : a = none → cap = 0) (hB : B ≤ w.heap.size) (hMi : Mi = M) (hN : N = n + M) (hM : M ≤ 8) (hr : n + M ≤ 140737488355328) :
    Calls Try.prog 41 #[.slice a n cap, .int .i64 Mi, .int .i64 x] w fun e w' => ∃ ao cp, e = .returned (.slice ao N cp) ∧ Grew .u8 5 B w w' (.slice a n cap) (.slice ao N cp) N (zs ++ putB M x M) ∧ (ao = none → cp = 0) := by
  subst hMi hN
  exact Put_any B a n cap M x zs w hm ha hB hM hr
end Go.Proofs.Ytfeeifemfhhijaa
