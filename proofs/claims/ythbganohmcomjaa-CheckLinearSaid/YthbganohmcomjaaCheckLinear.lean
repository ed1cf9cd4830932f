/-
  Proved: the Go function CheckLinear, called with any number and any two strings of bytes, returns true and leaves its arguments as they were (the exclusive or of the check values of two strings of the same length is where their exclusive or leads from the register 0).
  Conditions: none beyond those of the given row.
-/
import Derived.Test.YthbganohmcomjaaChkAwake
import Derived.Test.YthbganohmcomjaaLift
import Derived.Test.YthbganohmcomjaaPush
import Derived.Test.YthbganohmcomjaaRows
import Derived.Deep.QuietTactic
import Derived.BigQuiet
import Derived.Deep.RegionHeld3
import Derived.Deep.DrawnRows
import Derived.Deep.DeepCutAuto
namespace Go.Proofs.Ythbganohmcomjaa.checkLinear
open Go Go.RowKit Go.ChangeShapes Go.WideShapes Go.ChangeAt
attribute [local go_sem ↓] Go.wp_at_zero Go.wp_at_succ

theorem info_b : (Try.prog.info? 5).map (fun i => (i.zero, i.size, i.bytes)) = some (some (.int .u8 0), 1, 1) := by kernel_rfl

def xorTo (xs ys : List Int) (i : Nat) : List Int := (List.range i).map fun j => (((xs.getD j 0).toNat ^^^ (ys.getD j 0).toNat : Nat) : Int)
theorem xorTo_succ (xs ys : List Int) (i : Nat) : xorTo xs ys (i + 1) = xorTo xs ys i ++ [(((xs.getD i 0).toNat ^^^ (ys.getD i 0).toNat : Nat) : Int)] := by
  unfold xorTo; rw [List.range_succ, List.map_append]; rfl
theorem xorTo_len (xs ys : List Int) (i : Nat) : (xorTo xs ys i).length = i := by unfold xorTo; simp
theorem xorTo_at (xs ys : List Int) (i j : Nat) (h : j < i) : ((xorTo xs ys i).getD j 0).toNat = (xs.getD j 0).toNat ^^^ (ys.getD j 0).toNat := by
  unfold xorTo
  rw [List.getD_eq_getElem?_getD, List.getElem?_map, List.getElem?_range h]; simp

set_option maxRecDepth 100000 in
set_option maxHeartbeats 1600000 in
theorem walk (w : World) (k : Int) (b0 : -9223372036854775808 ≤ k ∧ k ≤ 9223372036854775807) (a : Option Addr) (n cap : Nat) (xs : List Int) (hs : Sl .u8 w a n xs) (hca : a = none → cap = 0) (hle : n ≤ cap) (a2 : Option Addr) (m cap2 : Nat) (ys : List Int) (hs2 : Sl .u8 w a2 m ys) (hca2 : a2 = none → cap2 = 0) (hle2 : m ≤ cap2) :
    Calls Try.prog 5 #[.int .i64 k, .slice a n cap, .slice a2 m cap2] w fun e w' => e = .returned (.bool true) ∧ Below w.heap.size w w' := by
  have hr := hs.reach
  have hr2 := hs2.reach
  have Hs := Lib.hid hs
  have Hs2 := Lib.hid hs2
  clear hs hs2
  obtain ⟨P, hP⟩ := widN_kd k
  have C := Lib.hid (fun W => width_any k W b0)
  generalize widN k = K at hP C
  have hk2 := hP.most
  go_enter Try.func5, Try.ntmps5
  go_upto_region 1 with (fail)
  go_cut [7] (fun s7 wx => ∃ q : Nat, q ≤ n ∧ q ≤ m ∧ q ≤ 500 ∧ s7 = .int .i64 q ∧ w = wx)
  case first =>
    by_cases hmn : m < n
    all_goals
      go_wp2_with fail
      all_goals go_meet
      all_goals first | exact ⟨m, by omega, by omega, by omega, rfl, rfl⟩ | exact ⟨n, by omega, by omega, by omega, rfl, rfl⟩ | exact ⟨500, by omega, by omega, by omega, rfl, rfl⟩
  case rest =>
    obtain ⟨q, hqn, hqm, hq5, rfl, rfl⟩ := hcut
    have q0 : (0 : Int) ≤ (q : Int) := by omega
    have q1 : (q : Int) ≤ (cap : Int) := by omega
    have q2 : (q : Int) ≤ (cap2 : Int) := by omega
    go_wp2_with fail
    go_quiet (fail)
    have HB : Hid (Below w.heap.size w (w.drewN nq)) := ⟨rfl, rfl, rfl, Nat.le_refl _, fun _ _ => rfl⟩
    generalize w.drewN nq = w1 at HB
    go_wp2_with (go_at_call 9; refine (C.out _).mono ?_; rintro e w' ⟨rfl, rfl⟩)
    go_loopw [9, 10] (fun c i wr => ∃ (j : Nat) (ao : Option Addr) (co : Nat), j ≤ q ∧ i = .int .i64 j ∧ c = .slice ao j co ∧ Mk .u8 5 w.heap.size wr (.slice ao j co) j (xorTo xs ys j) ∧ Below w.heap.size w wr) (fun _ i _ => q - (intOf i).toNat)
    case atStart => exact ⟨0, none, 0, by omega, by simp, rfl, Mk.nil _ _ _ _, HB.out⟩
    case round =>
      obtain ⟨j, ao, co, hj, rfl, rfl, hm, hb⟩ := hrel
      have Hm := Lib.hid hm
      have Hb := Lib.hid hb
      have hsz := hb.size
      clear hm hb
      by_cases hlt : j < q
      · obtain ⟨b1, o1, rfl⟩ := Hs.out.head (by omega)
        obtain ⟨b2, o2, rfl⟩ := Hs2.out.head (by omega)
        have c1 := (Hs.out.keep Hb.out).at (i := j) (by omega)
        have c2 := (Hs2.out.keep Hb.out).at (i := j) (by omega)
        have C1 := Lib.hid (Hs.out.at (i := j) (by omega))
        have C2 := Lib.hid (Hs2.out.at (i := j) (by omega))
        have z1 := Hs.out.u8 j
        have z2 := Hs2.out.u8 j
        have l1 := Hs.out.block (i := j) (by omega)
        have l2 := Hs2.out.block (i := j) (by omega)
        have HX := Lib.hid (xorTo_succ xs ys j)
        generalize xs.getD j 0 = x1 at c1 z1 HX C1
        generalize ys.getD j 0 = x2 at c2 z2 HX C2
        have hx := u8_xor x1 x2 z1.1 (by omega) z2.1 (by omega)
        rw [← hx] at HX
        have WF : Hid ((Lit.int .u8 (bits .xor .u8 x1 x2)).wf = true) := by
          have h1 : x1.toNat ^^^ x2.toNat < 2 ^ 8 := Nat.xor_lt_two_pow (by omega) (by omega)
          rw [hx]; exact byte_wf (by omega) (by omega)
        clear hx
        have j0 : (0 : Int) ≤ (j : Int) := by omega
        have j1 : (j : Int) < (q : Int) := by omega
        go_wp2_with fail
        go_region_held3 (fun w' => w'.cell? ⟨b1, o1 + j, none⟩ = some (.int .u8 x1) ∧ w'.cell? ⟨b2, o2 + j, none⟩ = some (.int .u8 x2))
          (first | go_keep | exact ⟨(B2.out.cell l1).trans C1.out, (B2.out.cell l2).trans C2.out⟩)
          (first | (refine step_push_mk (by rfl) _ _ _ (by rfl) .u8 5 w.heap.size 1 Try.underlying22 info_b (.slice ao j co) j (xorTo xs ys j) (by rfl) (Hm.out.alloc _).drew _ wr.heap.size 0 1 (Sl.one .u8 wr _ 5 WF.out).drew (by rfl) (by omega) (by omega) (by simp; omega) ?_; intro g co2 w2 hm2 hg2 hf2; have B2 := Lib.hid (((Hb.out.alloc (by omega) _).drew).grown hg2 (by simp; omega) (fun g hg => (Hm.out.own_ge g hg).1)); have M2 := Lib.hid hm2; clear hm2 hg2 hf2))
        go_wp2
        go_roundw
        case rel => exact ⟨j + 1, some ⟨g, 0, none⟩, co2, by omega, by go_num, rfl, by rw [HX.out]; exact M2.out, B2.out⟩
        case measure => simp [intOf]; omega
      · obtain rfl : j = q := by omega
        have h0 : (0 : Nat) < 2 ^ K := Nat.two_pow_pos K
        have E1 := Lib.hid (sum_kd hP (xs.take j))
        have E2 := Lib.hid (sum_kd hP (ys.take j))
        have E3 := Lib.hid (next_kd hP h0 (xorTo xs ys j))
        have HP := Lib.hid hP
        clear hP h0
        go_wp2_with fail
        refine (Sum_b _ _ _ _ (xs.take j) _ Hb.out ((Hs.out.take hqn).keep Hb.out) (by omega)).mono ?_
        rw [E1.out.1, E1.out.2]
        rintro e w3 ⟨rfl, hb, hl⟩
        have B3 := Lib.hid hb
        have M3 := Lib.hid (Hm.out.keep hl)
        clear hb hl
        go_wp2_with fail
        refine (Sum_b _ _ _ _ (ys.take j) _ B3.out ((Hs2.out.take hqm).keep B3.out) (by omega)).mono ?_
        rw [E2.out.1, E2.out.2]
        rintro e w4 ⟨rfl, hb, hl⟩
        have B4 := Lib.hid hb
        have M4 := Lib.hid (M3.out.keep hl)
        clear hb hl
        go_wp2_with fail
        refine (Next_b _ _ _ _ _ (xorTo xs ys j) _ B4.out M4.out.sl (by omega)).mono ?_
        rw [show (0 : Int) = ((0 : Nat) : Int) from rfl, E3.out.1, E3.out.2]
        rintro e w5 ⟨rfl, hb, _⟩
        have B5 := Lib.hid hb
        clear hb
        have HE : Hid (bits .xor .i64 ((regOf K P (2 ^ K - 1) (xs.take j) : Nat) : Int) ((regOf K P (2 ^ K - 1) (ys.take j) : Nat) : Int) = ((regOf K P 0 (xorTo xs ys j) : Nat) : Int)) := by
          have h24 := pw24 K HP.out.most
          have r1 := regOf_lt HP.out.lt (show 2 ^ K - 1 < 2 ^ K by have := Nat.two_pow_pos K; omega) (xs.take j)
          have r2 := regOf_lt HP.out.lt (show 2 ^ K - 1 < 2 ^ K by have := Nat.two_pow_pos K; omega) (ys.take j)
          have hx : ∀ i, i < j → ((xorTo xs ys j).getD i 0).toNat = ((xs.take j).getD i 0).toNat ^^^ ((ys.take j).getD i 0).toNat := fun i hi => by
            rw [xorTo_at xs ys j i hi, getD_take_lt hi, getD_take_lt hi]
          rw [i64_xor_nat _ _ (by omega) (by omega), regOf_xor K P _ _ (xs.take j) (ys.take j) (xorTo xs ys j) j (Hs.out.take hqn).len (Hs2.out.take hqm).len (xorTo_len _ _ _) hx, Nat.xor_self]; exact Lib.hid rfl
        go_wp2_with (go_at_call 8; refine (awake03_b _ B5.out).mono ?_; rintro e w6 ⟨rfl, hb⟩; have B6 := Lib.hid hb; clear hb)
        go_ret
        exact ⟨ret_bool (by rw [HE.out]; simp), B6.out⟩

theorem own : ownKnob Try.prog.godebug = none := by kernel_rfl
theorem laidOut : laidOutB Try.prog = true := by kernel_rfl
theorem read_int : Try.prog.readableRec 3 = true := by kernel_rfl
theorem read_bytes : Try.prog.readableRec 22 = true := by kernel_rfl
theorem cells_b : Try.prog.cellsOf 5 = 1 := by kernel_rfl
theorem bytes_b : Try.prog.bytesOf 5 = 1 := by kernel_rfl
theorem lt_int : 3 < Try.prog.types.size := of_decide_eq_true (by kernel_rfl)
theorem lt_bytes : 22 < Try.prog.types.size := of_decide_eq_true (by kernel_rfl)

set_option maxRecDepth 100000 in
theorem lifted (os : Os) (started : os.Started) (H : Type) (enc : TypeId × Value → H) :
    ReturnsInHanded {} Try.checked os 5 .any (Rows.checkLinearSpec.pre6 enc Try.prog Try.f5 Rows.checkLinearRow.domain false) (Rows.checkLinearSpec.post enc Try.prog Try.f5 false true false false) := by
  refine law_lifted (C := Try.checked) (rt := 4) [3, 22, 22] own started (by kernel_rfl) Try.func5 laidOut (by rw [Try.params5])
    (fun t ht => by simp only [List.mem_cons, List.not_mem_nil, or_false] at ht; rcases ht with rfl | rfl | rfl <;> first | exact ⟨read_int, lt_int⟩ | exact ⟨read_bytes, lt_bytes⟩) rfl Try.underlying4 rfl
    (fun ds h => by match ds, h with | [d0, d1, d2], _ => rfl)
    (ChangeSpec.witness6 (enc := enc) (C := Try.checked) false ⟨#[], #[.int .i64 0, .slice none 0 0, .slice none 0 0], []⟩ 8 (by kernel_rfl) (by kernel_rfl) (by kernel_rfl) (by kernel_rfl)) ?_
  intro W base args ds p hval hA hsz
  obtain ⟨v0, vs0, d0, ds0, p0, q0, hargs, rfl, rfl, h0, r0⟩ := trodAll_cons hA
  obtain ⟨v1, vs1, d1, ds1, p1, q1, rfl, rfl, rfl, h1, r1⟩ := trodAll_cons r0
  obtain ⟨v2, vs2, d2, ds2, p2, q2, rfl, rfl, rfl, h2, r2⟩ := trodAll_cons r1
  obtain ⟨rfl, rfl, rfl⟩ := trodAll_nil r2
  obtain rfl : args = #[v0, v1, v2] := by cases args; simp_all
  obtain ⟨x0, rfl, b0⟩ := open_i64 Try.underlying3 (hval 0 _ v0 rfl rfl) h0
  obtain ⟨a1, n1, c1, z1, rfl, s1, nn1⟩ := open_slc Try.underlying22 Try.underlying5 cells_b (by rw [bytes_b]; omega) (hval 1 _ v1 rfl rfl) h1 (fun el spa hd => sized_slice hsz (j := 1) rfl (by rw [hd]; rfl) Try.underlying22)
  obtain ⟨a2, n2, c2, z2, rfl, s2, nn2⟩ := open_slc Try.underlying22 Try.underlying5 cells_b (by rw [bytes_b]; omega) (hval 2 _ v2 rfl rfl) h2 (fun el spa hd => sized_slice hsz (j := 2) rfl (by rw [hd]; rfl) Try.underlying22)
  exact walk W x0 b0 a1 n1 c1 z1 s1 nn1.1 nn1.2 a2 n2 c2 z2 s2 nn2.1 nn2.2

/-- THE STATEMENT -/
theorem proved : Rows.CheckLinearSaid :=
  OpenClaim.holds_of_wide 5 Try.f5 rfl rfl rfl rfl rfl rfl rfl ⟨rfl, rfl, rfl, rfl, rfl⟩ rfl rfl rfl rfl rfl (by kernel_rfl) Try.func5 (by kernel_rfl)
    (of_decide_eq_true (by kernel_rfl)) (by unfold Func.isWrapper; first | (rw [if_pos (by decide +kernel)]; kernel_rfl) | (rw [if_neg (by decide +kernel)]; exact ⟨rfl, rfl⟩))
    (fun os started H enc _ => lifted os started H enc)
#print axioms proved
end Go.Proofs.Ythbganohmcomjaa.checkLinear
