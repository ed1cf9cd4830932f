/-
  Bytes that the statements make: Bytes and Filled.
-/
import Derived.Test.YtfeeifemfhhijaaDice2
namespace Go.Proofs.Ytfeeifemfhhijaa
open Go Go.RowKit

theorem info_u8d : (Try.prog.info? 5).map (fun i => (i.zero, i.size, i.bytes)) = some (some (.int .u8 0), 1, 1) := by kernel_rfl
theorem wf_u8_mod (x : Int) : (Lit.int .u8 (x % 256)).wf = true := byte_wf (Int.emod_nonneg _ (by decide)) (by have := Int.emod_lt_of_pos x (show (0 : Int) < 256 by decide); omega)

set_option maxRecDepth 100000 in
set_option maxHeartbeats 1600000 in
theorem bytes_in (g : Nat) (M : Nat) (w : World) (hd : DiceIn w g) (hM : M ≤ 1048576) :
    Calls Try.prog 25 #[.pointer (some ⟨g, 0, none⟩), .int .i64 M] w fun e w' => ∃ (o : Option Addr) (n cp : Nat) (zs : List Int), e = .returned (.slice o n cp) ∧ n ≤ M ∧ Mk .u8 5 w.heap.size w' (.slice o n cp) n zs ∧ (o = none → cp = 0) ∧ DiceIn w' g ∧ w.grownBy w' (some g) := by
  have C := Lib.hid (next_in g ((M : Int) + 1) w hd (by omega) (by omega))
  have hgw := hd.lt
  clear hd
  go_enter Try.func25, Try.ntmps25
  go_wp2_with (first
    | (go_at_call 22; ((with_reducible refine C.out.mono ?_); rintro e w1 ⟨r, rfl, h0, h1, hd1, hg⟩; have D1 := Lib.hid hd1; have G1 := Lib.hid hg; clear hd1 hg; clear C))
    | fail)
  obtain ⟨N, rfl⟩ := Int.eq_ofNat_of_zero_le h0
  have hNM : N ≤ M := by omega
  go_loopw [5, 6] (fun v i wr => ∃ (k : Nat) (o : Option Addr) (p : Nat) (zs : List Int), k ≤ N ∧ i = .int .i64 ((N : Int) - k) ∧ v = .slice o k p ∧ (o = none → p = 0) ∧ Mk .u8 5 w.heap.size wr (.slice o k p) k zs ∧ DiceIn wr g ∧ w.grownBy wr (some g)) (fun _ i _ => (intOf i).toNat)
  case atStart => exact ⟨0, none, 0, [], by omega, by simp, rfl, fun _ => rfl, Mk.nil _ _ _ _, D1.out, G1.out⟩
  case round =>
    obtain ⟨k, o, p, zs, hk, rfl, rfl, ho, hm, hd, hg⟩ := hrel
    have Hm := Lib.hid hm
    have Hd := Lib.hid hd
    have Hg := Lib.hid hg
    have Ho := Lib.hid ho
    have hsz := hg.size
    clear hm hd hg ho
    by_cases hlt : k < N
    · have hpos : (0 : Int) < (N : Int) - k := by omega
      go_wp2_with (first
        | (go_at_call 22; refine (next_in g _ _ Hd.out (by omega) (by omega)).mono ?_; rintro e w2 ⟨q, rfl, h2, h3, hd1, hg⟩; have D2 := Lib.hid hd1; have G2 := Lib.hid (grown_trans Hg.out hg); have M2 := Lib.hid (Hm.out.keepBut hg hgw); have hs2 := G2.out.size; have W2 : Hid ((Lit.int .u8 q).wf = true) := Lib.hid (byte_wf h2 (by omega)); clear hd1 hg)
        | (at_builtin; refine wpList_push_at rfl (.tmp 15) (.tmp 19) 24 rfl .u8 5 w.heap.size 1 Try.underlying24 info_u8d (.slice o k p) k zs rfl (M2.out.alloc _) q w2.heap.size 0 1 (Sl.one .u8 w2 _ 5 W2.out) rfl (by omega) (by omega) (by simp; omega) ?_; intro g1 c1 w5 hm hg hf; have M5 := Lib.hid hm; have D5 := Lib.hid ((D2.out.alloc _).keepRow hg (fun b hb => Nat.lt_of_lt_of_le hgw (M2.out.own_ge b hb).1)); have G5 := Lib.hid (grown_then (grown_then G2.out (World.grownBy_alloc w2 _ none) (fun _ h => by cases h)) hg (fun j hj => .inr (M2.out.own_ge j hj).1)); clear hm hg hf)
        | fail)
      go_roundw
      case rel => exact ⟨k + 1, some ⟨g1, 0, none⟩, c1, zs ++ [q], by omega, by go_num, rfl, (fun h => by cases h), M5.out, D5.out, G5.out⟩
      case measure => simp [intOf] <;> omega
    · obtain rfl : k = N := by omega
      go_wp2
      go_ret
      exact ⟨o, k, p, zs, rfl, hNM, Hm.out, Ho.out, Hd.out, Hg.out⟩

set_option maxRecDepth 100000 in
set_option maxHeartbeats 1600000 in
theorem filled_any (M : Nat) (s : Int) (w : World) (hM : M ≤ 1048576) :
    Calls Try.prog 26 #[.int .i64 M, .int .i64 s] w fun e w' => ∃ (o : Option Addr) (cp : Nat) (zs : List Int), e = .returned (.slice o M cp) ∧ Mk .u8 5 w.heap.size w' (.slice o M cp) M zs ∧ (o = none → cp = 0) ∧ w.grownBy w' none := by
  go_enter Try.func26, Try.ntmps26
  go_wp2
  go_loopw [5, 6] (fun v i wr => ∃ (k : Nat) (o : Option Addr) (p : Nat) (zs : List Int), k ≤ M ∧ i = .int .i64 (k : Int) ∧ v = .slice o k p ∧ (o = none → p = 0) ∧ Mk .u8 5 w.heap.size wr (.slice o k p) k zs ∧ w.grownBy wr none) (fun _ i _ => M - (intOf i).toNat)
  case atStart => exact ⟨0, none, 0, [], by omega, by simp, rfl, fun _ => rfl, Mk.nil _ _ _ _, World.grownBy.refl _ _⟩
  case round =>
    obtain ⟨k, o, p, zs, hk, rfl, rfl, ho, hm, hg⟩ := hrel
    have Hm := Lib.hid hm
    have Hg := Lib.hid hg
    have Ho := Lib.hid ho
    have hsz := hg.size
    clear hm hg ho
    by_cases hlt : k < M
    · have W2 := Lib.hid wf_u8_mod
      go_wp2_with (first
        | (at_builtin; refine wpList_push_at rfl (.tmp 12) (.tmp 21) 24 rfl .u8 5 w.heap.size 1 Try.underlying24 info_u8d (.slice o k p) k zs rfl (Hm.out.alloc _) _ wr.heap.size 0 1 (Sl.one .u8 wr _ 5 (W2.out _)) rfl (by omega) (by omega) (by simp; omega) ?_; intro g1 c1 w5 hm hg hf; have M5 := Lib.hid hm; have G5 := Lib.hid (grown_then (grown_then Hg.out (World.grownBy_alloc wr _ none) (fun _ h => by cases h)) hg (fun j hj => .inr (Hm.out.own_ge j hj).1)); clear hm hg hf)
        | fail)
      go_roundw
      case rel => exact ⟨k + 1, some ⟨g1, 0, none⟩, c1, _, by omega, by go_num, rfl, (fun h => by cases h), M5.out, G5.out⟩
      case measure => simp [intOf] <;> omega
    · obtain rfl : k = M := by omega
      go_wp2
      go_ret
      exact ⟨o, p, zs, rfl, Hm.out, Ho.out, Hg.out⟩
end Go.Proofs.Ytfeeifemfhhijaa
