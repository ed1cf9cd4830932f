/-
  Changed of layer 6: the program's and the document's.
-/
import Derived.Test.YtphekpkkeiaccaaFlSame
import Derived.Deep.DeepCutAuto
namespace Go.Proofs.Ytphekpkkeiaccaa
open Go Go.RowKit

def bitV (b : Bool) (v : Int) : Int := if b then v else 0
/-- the sum behind the first t of five tests -/
def chgP (d0 d1 d2 d3 d4 : Bool) (t : Nat) : Int :=
  (if 0 < t then bitV d0 1 else 0) + (if 1 < t then bitV d1 2 else 0) + (if 2 < t then bitV d2 4 else 0) + (if 3 < t then bitV d3 8 else 0) + (if 4 < t then bitV d4 16 else 0)
theorem bitV_ne (x y v : Int) : bitV (x != y) v = if x = y then 0 else v := by
  unfold bitV; by_cases h : x = y <;> simp [h]
theorem bitV_neb (x y : Bool) (v : Int) : bitV (!(x == y)) v = if x = y then 0 else v := by
  unfold bitV; by_cases h : x = y <;> simp [h]
theorem chgP_5 (a b : Hd) : chgP (a.tos != b.tos) (a.ttl != b.ttl) (a.fixed != b.fixed) (a.type != b.type) (!((a.check == 0) == (b.check == 0))) 5 = chgV a b := by
  unfold chgP chgV; simp [bitV_ne, bitV_neb]
theorem chgP_bd (d0 d1 d2 d3 d4 : Bool) (t : Nat) : 0 ≤ chgP d0 d1 d2 d3 d4 t ∧ chgP d0 d1 d2 d3 d4 t ≤ 31 := by
  unfold chgP bitV
  constructor <;> (repeat' split) <;> omega

set_option maxRecDepth 100000 in
set_option maxHeartbeats 3200000 in
theorem Changed_any (a b : Hd) (w : World) :
    Calls Try.prog 15 #[(.agg #[.int .i64 a.kind, .int .i64 a.tos, .int .i64 a.id, .int .i64 a.fixed, .int .i64 a.ttl, .int .i64 a.frm, .int .i64 a.to, .int .i64 a.fromPort, .int .i64 a.toPort, .int .i64 a.check, .int .i64 a.marker, .int .i64 a.type, .int .i64 a.seq, .int .i64 a.time, .int .i64 a.source]), (.agg #[.int .i64 b.kind, .int .i64 b.tos, .int .i64 b.id, .int .i64 b.fixed, .int .i64 b.ttl, .int .i64 b.frm, .int .i64 b.to, .int .i64 b.fromPort, .int .i64 b.toPort, .int .i64 b.check, .int .i64 b.marker, .int .i64 b.type, .int .i64 b.seq, .int .i64 b.time, .int .i64 b.source])] w fun e w' => e = .returned (.int .i64 (chgV a b)) ∧ Below w.heap.size w w' := by
  have BW := Lib.hid (((Below.refl w.heap.size w).alloc (Nat.le_refl _) (.cells #[.int .i64 a.kind, .int .i64 a.tos, .int .i64 a.id, .int .i64 a.fixed, .int .i64 a.ttl, .int .i64 a.frm, .int .i64 a.to, .int .i64 a.fromPort, .int .i64 a.toPort, .int .i64 a.check, .int .i64 a.marker, .int .i64 a.type, .int .i64 a.seq, .int .i64 a.time, .int .i64 a.source] 23)).alloc (by simp) (.cells #[.int .i64 b.kind, .int .i64 b.tos, .int .i64 b.id, .int .i64 b.fixed, .int .i64 b.ttl, .int .i64 b.frm, .int .i64 b.to, .int .i64 b.fromPort, .int .i64 b.toPort, .int .i64 b.check, .int .i64 b.marker, .int .i64 b.type, .int .i64 b.seq, .int .i64 b.time, .int .i64 b.source] 23))
  have H0 := Lib.hid (HH.laid w a b)
  have HF := Lib.hid (chgP_5 a b)
  go_enter Try.func15, Try.ntmps15
  go_wp2
  generalize (a.tos != b.tos) = d0 at HF ⊢
  generalize (a.ttl != b.ttl) = d1 at HF ⊢
  generalize (a.fixed != b.fixed) = d2 at HF ⊢
  generalize (a.type != b.type) = d3 at HF ⊢
  generalize (!((a.check == 0) == (b.check == 0))) = d4 at HF ⊢
  replace BW := Lib.hid (BW.out.alloc (by simp; omega) (.cells #[.bool d0, .bool d1, .bool d2, .bool d3, .bool d4] 52))
  generalize (((w.alloc (.cells #[.int .i64 a.kind, .int .i64 a.tos, .int .i64 a.id, .int .i64 a.fixed, .int .i64 a.ttl, .int .i64 a.frm, .int .i64 a.to, .int .i64 a.fromPort, .int .i64 a.toPort, .int .i64 a.check, .int .i64 a.marker, .int .i64 a.type, .int .i64 a.seq, .int .i64 a.time, .int .i64 a.source] 23)).alloc (.cells #[.int .i64 b.kind, .int .i64 b.tos, .int .i64 b.id, .int .i64 b.fixed, .int .i64 b.ttl, .int .i64 b.frm, .int .i64 b.to, .int .i64 b.fromPort, .int .i64 b.toPort, .int .i64 b.check, .int .i64 b.marker, .int .i64 b.type, .int .i64 b.seq, .int .i64 b.time, .int .i64 b.source] 23)).alloc (.cells #[.bool d0, .bool d1, .bool d2, .bool d3, .bool d4] 52)) = W0 at BW ⊢
  clear H0
  go_loopw [6, 38] (fun s i wr => ∃ t : Nat, t ≤ 5 ∧ i = .int .i64 (t : Int) ∧ s = .int .i64 (chgP d0 d1 d2 d3 d4 t) ∧ W0 = wr) (fun _ i _ => 5 - (intOf i).toNat)
  case atStart => exact ⟨0, by omega, rfl, rfl, rfl⟩
  case round =>
    obtain ⟨t, ht, rfl, rfl, rfl⟩ := hrel
    by_cases hlt : t < 5
    · obtain rfl | rfl | rfl | rfl | rfl : t = 0 ∨ t = 1 ∨ t = 2 ∨ t = 3 ∨ t = 4 := by omega
      · have HI : ∀ W, Sem.run Try.prog (Instr.index 52 (.agg #[.bool d0, .bool d1, .bool d2, .bool d3, .bool d4]) (.int .i64 0)) W = .ok (.bool d0) W := fun W => by kernel_rfl
        have HB := chgP_bd d0 d1 d2 d3 d4 0
        have HT : chgP d0 d1 d2 d3 d4 (0 + 1) = chgP d0 d1 d2 d3 d4 0 + bitV d0 1 := by unfold chgP; simp
        generalize chgP d0 d1 d2 d3 d4 0 = x at HB HT ⊢
        cases d0 with
        | true =>
          replace HT := Lib.hid HT
          go_wp2
          go_roundw
          case rel => exact ⟨0 + 1, by omega, rfl, by rw [HT.out]; rfl, trivial⟩
          case measure => simp [intOf] <;> omega
        | false =>
          replace HT := Lib.hid HT
          go_wp2
          go_roundw
          case rel => exact ⟨0 + 1, by omega, rfl, by rw [HT.out]; simp [bitV], trivial⟩
          case measure => simp [intOf] <;> omega
      · have HI : ∀ W, Sem.run Try.prog (Instr.index 52 (.agg #[.bool d0, .bool d1, .bool d2, .bool d3, .bool d4]) (.int .i64 1)) W = .ok (.bool d1) W := fun W => by kernel_rfl
        have HB := chgP_bd d0 d1 d2 d3 d4 1
        have HT : chgP d0 d1 d2 d3 d4 (1 + 1) = chgP d0 d1 d2 d3 d4 1 + bitV d1 2 := by unfold chgP; simp
        generalize chgP d0 d1 d2 d3 d4 1 = x at HB HT ⊢
        cases d1 with
        | true =>
          replace HT := Lib.hid HT
          go_wp2
          go_roundw
          case rel => exact ⟨1 + 1, by omega, rfl, by rw [HT.out]; rfl, trivial⟩
          case measure => simp [intOf] <;> omega
        | false =>
          replace HT := Lib.hid HT
          go_wp2
          go_roundw
          case rel => exact ⟨1 + 1, by omega, rfl, by rw [HT.out]; simp [bitV], trivial⟩
          case measure => simp [intOf] <;> omega
      · have HI : ∀ W, Sem.run Try.prog (Instr.index 52 (.agg #[.bool d0, .bool d1, .bool d2, .bool d3, .bool d4]) (.int .i64 2)) W = .ok (.bool d2) W := fun W => by kernel_rfl
        have HB := chgP_bd d0 d1 d2 d3 d4 2
        have HT : chgP d0 d1 d2 d3 d4 (2 + 1) = chgP d0 d1 d2 d3 d4 2 + bitV d2 4 := by unfold chgP; simp
        generalize chgP d0 d1 d2 d3 d4 2 = x at HB HT ⊢
        cases d2 with
        | true =>
          replace HT := Lib.hid HT
          go_wp2
          go_roundw
          case rel => exact ⟨2 + 1, by omega, rfl, by rw [HT.out]; rfl, trivial⟩
          case measure => simp [intOf] <;> omega
        | false =>
          replace HT := Lib.hid HT
          go_wp2
          go_roundw
          case rel => exact ⟨2 + 1, by omega, rfl, by rw [HT.out]; simp [bitV], trivial⟩
          case measure => simp [intOf] <;> omega
      · have HI : ∀ W, Sem.run Try.prog (Instr.index 52 (.agg #[.bool d0, .bool d1, .bool d2, .bool d3, .bool d4]) (.int .i64 3)) W = .ok (.bool d3) W := fun W => by kernel_rfl
        have HB := chgP_bd d0 d1 d2 d3 d4 3
        have HT : chgP d0 d1 d2 d3 d4 (3 + 1) = chgP d0 d1 d2 d3 d4 3 + bitV d3 8 := by unfold chgP; simp
        generalize chgP d0 d1 d2 d3 d4 3 = x at HB HT ⊢
        cases d3 with
        | true =>
          replace HT := Lib.hid HT
          go_wp2
          go_roundw
          case rel => exact ⟨3 + 1, by omega, rfl, by rw [HT.out]; rfl, trivial⟩
          case measure => simp [intOf] <;> omega
        | false =>
          replace HT := Lib.hid HT
          go_wp2
          go_roundw
          case rel => exact ⟨3 + 1, by omega, rfl, by rw [HT.out]; simp [bitV], trivial⟩
          case measure => simp [intOf] <;> omega
      · have HI : ∀ W, Sem.run Try.prog (Instr.index 52 (.agg #[.bool d0, .bool d1, .bool d2, .bool d3, .bool d4]) (.int .i64 4)) W = .ok (.bool d4) W := fun W => by kernel_rfl
        have HB := chgP_bd d0 d1 d2 d3 d4 4
        have HT : chgP d0 d1 d2 d3 d4 (4 + 1) = chgP d0 d1 d2 d3 d4 4 + bitV d4 16 := by unfold chgP; simp
        generalize chgP d0 d1 d2 d3 d4 4 = x at HB HT ⊢
        cases d4 with
        | true =>
          replace HT := Lib.hid HT
          go_wp2
          go_roundw
          case rel => exact ⟨4 + 1, by omega, rfl, by rw [HT.out]; rfl, trivial⟩
          case measure => simp [intOf] <;> omega
        | false =>
          replace HT := Lib.hid HT
          go_wp2
          go_roundw
          case rel => exact ⟨4 + 1, by omega, rfl, by rw [HT.out]; simp [bitV], trivial⟩
          case measure => simp [intOf] <;> omega
    · obtain rfl : t = 5 := by omega
      rw [HF.out]
      go_wp2
      go_ret
      exact ⟨rfl, BW.out⟩


theorem bitV_bd (d : Bool) (v : Int) (h : 0 ≤ v) : 0 ≤ bitV d v ∧ bitV d v ≤ v := by unfold bitV; split <;> omega

set_option maxRecDepth 100000 in
set_option maxHeartbeats 3200000 in
theorem rChanged_any (a b : Hd) (w : World) :
    Calls Try.prog 16 #[(.agg #[.int .i64 a.kind, .int .i64 a.tos, .int .i64 a.id, .int .i64 a.fixed, .int .i64 a.ttl, .int .i64 a.frm, .int .i64 a.to, .int .i64 a.fromPort, .int .i64 a.toPort, .int .i64 a.check, .int .i64 a.marker, .int .i64 a.type, .int .i64 a.seq, .int .i64 a.time, .int .i64 a.source]), (.agg #[.int .i64 b.kind, .int .i64 b.tos, .int .i64 b.id, .int .i64 b.fixed, .int .i64 b.ttl, .int .i64 b.frm, .int .i64 b.to, .int .i64 b.fromPort, .int .i64 b.toPort, .int .i64 b.check, .int .i64 b.marker, .int .i64 b.type, .int .i64 b.seq, .int .i64 b.time, .int .i64 b.source])] w fun e w' => e = .returned (.int .i64 (chgV a b)) ∧ Below w.heap.size w w' := by
  have BW := Lib.hid (((Below.refl w.heap.size w).alloc (Nat.le_refl _) (.cells #[.int .i64 a.kind, .int .i64 a.tos, .int .i64 a.id, .int .i64 a.fixed, .int .i64 a.ttl, .int .i64 a.frm, .int .i64 a.to, .int .i64 a.fromPort, .int .i64 a.toPort, .int .i64 a.check, .int .i64 a.marker, .int .i64 a.type, .int .i64 a.seq, .int .i64 a.time, .int .i64 a.source] 23)).alloc (by simp) (.cells #[.int .i64 b.kind, .int .i64 b.tos, .int .i64 b.id, .int .i64 b.fixed, .int .i64 b.ttl, .int .i64 b.frm, .int .i64 b.to, .int .i64 b.fromPort, .int .i64 b.toPort, .int .i64 b.check, .int .i64 b.marker, .int .i64 b.type, .int .i64 b.seq, .int .i64 b.time, .int .i64 b.source] 23))
  have H0 := Lib.hid (HH.laid w a b)
  have HF := Lib.hid (chgP_5 a b)
  go_enter Try.func16, Try.ntmps16
  go_upto_if 10 with fail
  generalize (w.alloc (.cells #[.int .i64 a.kind, .int .i64 a.tos, .int .i64 a.id, .int .i64 a.fixed, .int .i64 a.ttl, .int .i64 a.frm, .int .i64 a.to, .int .i64 a.fromPort, .int .i64 a.toPort, .int .i64 a.check, .int .i64 a.marker, .int .i64 a.type, .int .i64 a.seq, .int .i64 a.time, .int .i64 a.source] 23)).alloc (.cells #[.int .i64 b.kind, .int .i64 b.tos, .int .i64 b.id, .int .i64 b.fixed, .int .i64 b.ttl, .int .i64 b.frm, .int .i64 b.to, .int .i64 b.fromPort, .int .i64 b.toPort, .int .i64 b.check, .int .i64 b.marker, .int .i64 b.type, .int .i64 b.seq, .int .i64 b.time, .int .i64 b.source] 23) = W0 at BW H0 ⊢
  have ca := cells_of H0.out.1
  have cb := cells_of H0.out.2
  clear H0
  generalize (a.tos != b.tos) = d0 at HF ⊢
  go_cut [5] (fun s5 wx => s5 = .int .i64 (bitV d0 1) ∧ W0 = wx)
  case first =>
    cases d0 with
    | true =>
      go_wp2
      go_meet
      exact ⟨by simp [bitV], rfl⟩
    | false =>
      go_wp2
      go_meet
      exact ⟨by simp [bitV], rfl⟩
  case rest =>
    obtain ⟨rfl, rfl⟩ := hcut
    go_upto_if 17 with fail
    generalize (a.ttl != b.ttl) = d1 at HF ⊢
    have HB : 0 ≤ bitV d0 1 ∧ bitV d0 1 ≤ 15 := by have := bitV_bd d0 1 (by omega); omega
    go_cut [5] (fun s5 wx => s5 = .int .i64 (bitV d0 1 + bitV d1 2) ∧ W0 = wx)
    case first =>
      cases d1 with
      | true =>
        go_wp2
        go_meet
        exact ⟨by simp [bitV], rfl⟩
      | false =>
        go_wp2
        go_meet
        exact ⟨by simp [bitV], rfl⟩
    case rest =>
      obtain ⟨rfl, rfl⟩ := hcut
      clear HB
      go_upto_if 24 with fail
      generalize (a.fixed != b.fixed) = d2 at HF ⊢
      have HB : 0 ≤ bitV d0 1 + bitV d1 2 ∧ bitV d0 1 + bitV d1 2 ≤ 15 := by have := bitV_bd d0 1 (by omega); have := bitV_bd d1 2 (by omega); omega
      go_cut [5] (fun s5 wx => s5 = .int .i64 (bitV d0 1 + bitV d1 2 + bitV d2 4) ∧ W0 = wx)
      case first =>
        cases d2 with
        | true =>
          go_wp2
          go_meet
          exact ⟨by simp [bitV], rfl⟩
        | false =>
          go_wp2
          go_meet
          exact ⟨by simp [bitV], rfl⟩
      case rest =>
        obtain ⟨rfl, rfl⟩ := hcut
        clear HB
        go_upto_if 31 with fail
        generalize (a.type != b.type) = d3 at HF ⊢
        have HB : 0 ≤ bitV d0 1 + bitV d1 2 + bitV d2 4 ∧ bitV d0 1 + bitV d1 2 + bitV d2 4 ≤ 15 := by have := bitV_bd d0 1 (by omega); have := bitV_bd d1 2 (by omega); have := bitV_bd d2 4 (by omega); omega
        go_cut [5] (fun s5 wx => s5 = .int .i64 (bitV d0 1 + bitV d1 2 + bitV d2 4 + bitV d3 8) ∧ W0 = wx)
        case first =>
          cases d3 with
          | true =>
            go_wp2
            go_meet
            exact ⟨by simp [bitV], rfl⟩
          | false =>
            go_wp2
            go_meet
            exact ⟨by simp [bitV], rfl⟩
        case rest =>
          obtain ⟨rfl, rfl⟩ := hcut
          clear HB
          go_upto_if 40 with fail
          generalize (!((a.check == 0) == (b.check == 0))) = d4 at HF ⊢
          have HB : 0 ≤ bitV d0 1 + bitV d1 2 + bitV d2 4 + bitV d3 8 ∧ bitV d0 1 + bitV d1 2 + bitV d2 4 + bitV d3 8 ≤ 15 := by have := bitV_bd d0 1 (by omega); have := bitV_bd d1 2 (by omega); have := bitV_bd d2 4 (by omega); have := bitV_bd d3 8 (by omega); omega
          go_cut [5] (fun s5 wx => s5 = .int .i64 (bitV d0 1 + bitV d1 2 + bitV d2 4 + bitV d3 8 + bitV d4 16) ∧ W0 = wx)
          case first =>
            cases d4 with
            | true =>
              go_wp2
              go_meet
              exact ⟨by simp [bitV], rfl⟩
            | false =>
              go_wp2
              go_meet
              exact ⟨by simp [bitV], rfl⟩
          case rest =>
            obtain ⟨rfl, rfl⟩ := hcut
            clear HB
            go_wp2
            go_ret
            refine ⟨ret_int ?_, BW.out⟩
            rw [← HF.out]; unfold chgP; simp

end Go.Proofs.Ytphekpkkeiaccaa
