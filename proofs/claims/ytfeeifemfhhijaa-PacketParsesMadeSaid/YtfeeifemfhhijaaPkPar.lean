/-
  header of the program's layer 5: what the fields of a packet's bytes say.
-/
import Derived.Test.YtfeeifemfhhijaaPkNum
import Derived.Test.YtfeeifemfhhijaaPkFns
namespace Go.Proofs.Ytfeeifemfhhijaa
open Go Go.RowKit

theorem i64_low7 (x : Int) (h0 : 0 ≤ x) (h1 : x ≤ 255) : bits .and .i64 x 127 = x % 128 := by
  obtain ⟨a, rfl⟩ := Int.eq_ofNat_of_zero_le h0
  have h := i64_and_nat a 127 (by omega) (by omega)
  rw [show (127 : Nat) = 2 ^ 7 - 1 from rfl, Nat.and_two_pow_sub_one_eq_mod] at h
  simpa using h
theorem getB_one (zs : List Int) (p : Nat) : getB zs p 1 = zs.getD p 0 := by simp [getB]

set_option maxRecDepth 100000 in
set_option maxHeartbeats 3200000 in
theorem header_one (a : Option Addr) (n cap : Nat) (zs : List Int) (w : World) (hs : Sl .u8 w a n zs) (hc : n ≤ cap) (hn : 28 ≤ n) (hk : rtpB zs = false) :
    Calls Try.prog 43 #[.slice a n cap] w fun e w' => e = .returned (.agg #[.int .i64 (fldU zs).kind, .int .i64 (fldU zs).tos, .int .i64 (fldU zs).id, .int .i64 (fldU zs).fixed, .int .i64 (fldU zs).ttl, .int .i64 (fldU zs).frm, .int .i64 (fldU zs).to, .int .i64 (fldU zs).fromPort, .int .i64 (fldU zs).toPort, .int .i64 (fldU zs).check, .int .i64 (fldU zs).marker, .int .i64 (fldU zs).type, .int .i64 (fldU zs).seq, .int .i64 (fldU zs).time, .int .i64 (fldU zs).source]) ∧ (w.alloc (.cells #[.int .i64 (fldU zs).kind, .int .i64 (fldU zs).tos, .int .i64 (fldU zs).id, .int .i64 (fldU zs).fixed, .int .i64 (fldU zs).ttl, .int .i64 (fldU zs).frm, .int .i64 (fldU zs).to, .int .i64 (fldU zs).fromPort, .int .i64 (fldU zs).toPort, .int .i64 (fldU zs).check, .int .i64 (fldU zs).marker, .int .i64 (fldU zs).type, .int .i64 (fldU zs).seq, .int .i64 (fldU zs).time, .int .i64 (fldU zs).source] 23)).alloc (.cells #[.int .i64 (fldU zs).kind, .int .i64 (fldU zs).tos, .int .i64 (fldU zs).id, .int .i64 (fldU zs).fixed, .int .i64 (fldU zs).ttl, .int .i64 (fldU zs).frm, .int .i64 (fldU zs).to, .int .i64 (fldU zs).fromPort, .int .i64 (fldU zs).toPort, .int .i64 (fldU zs).check, .int .i64 (fldU zs).marker, .int .i64 (fldU zs).type, .int .i64 (fldU zs).seq, .int .i64 (fldU zs).time, .int .i64 (fldU zs).source] 23) = w' := by
  have K := Lib.hid (fun W (hb : Below w.heap.size w W) => kind_any a n cap zs W (hs.keep hb))
  simp only [hk, if_false, Bool.false_eq_true] at K
  have HB1 := Lib.hid ((Below.refl w.heap.size w).alloc (Nat.le_refl _) (.cells #[.int .i64 0, .int .i64 0, .int .i64 0, .int .i64 0, .int .i64 0, .int .i64 0, .int .i64 0, .int .i64 0, .int .i64 0, .int .i64 0, .int .i64 0, .int .i64 0, .int .i64 0, .int .i64 0, .int .i64 0] 23))
  have N1 := Lib.hid (fun W (hb : Below w.heap.size w W) => number_any a n cap 1 1 1 2 zs W (hs.keep hb) rfl rfl (by omega) (by omega) (by omega) hc)
  have N4 := Lib.hid (fun W (hb : Below w.heap.size w W) => number_any a n cap 4 2 4 6 zs W (hs.keep hb) rfl rfl (by omega) (by omega) (by omega) hc)
  have N6 := Lib.hid (fun W (hb : Below w.heap.size w W) => number_any a n cap 6 1 6 7 zs W (hs.keep hb) rfl rfl (by omega) (by omega) (by omega) hc)
  have N8 := Lib.hid (fun W (hb : Below w.heap.size w W) => number_any a n cap 8 1 8 9 zs W (hs.keep hb) rfl rfl (by omega) (by omega) (by omega) hc)
  have N12 := Lib.hid (fun W (hb : Below w.heap.size w W) => number_any a n cap 12 4 12 16 zs W (hs.keep hb) rfl rfl (by omega) (by omega) (by omega) hc)
  have N16 := Lib.hid (fun W (hb : Below w.heap.size w W) => number_any a n cap 16 4 16 20 zs W (hs.keep hb) rfl rfl (by omega) (by omega) (by omega) hc)
  have N20 := Lib.hid (fun W (hb : Below w.heap.size w W) => number_any a n cap 20 2 20 22 zs W (hs.keep hb) rfl rfl (by omega) (by omega) (by omega) hc)
  have N22 := Lib.hid (fun W (hb : Below w.heap.size w W) => number_any a n cap 22 2 22 24 zs W (hs.keep hb) rfl rfl (by omega) (by omega) (by omega) hc)
  have N26 := Lib.hid (fun W (hb : Below w.heap.size w W) => number_any a n cap 26 2 26 28 zs W (hs.keep hb) rfl rfl (by omega) (by omega) (by omega) hc)
  unfold fldU
  simp only [getB_one] at *
  have u1 := hs.u8 1
  generalize zs.getD 1 0 = v1 at N1 u1 ⊢
  generalize getB zs 4 2 = v4 at N4 ⊢
  have u6 := hs.u8 6
  generalize zs.getD 6 0 = v6 at N6 u6 ⊢
  have u8 := hs.u8 8
  generalize zs.getD 8 0 = v8 at N8 u8 ⊢
  generalize getB zs 12 4 = v12 at N12 ⊢
  generalize getB zs 16 4 = v16 at N16 ⊢
  generalize getB zs 20 2 = v20 at N20 ⊢
  generalize getB zs 22 2 = v22 at N22 ⊢
  generalize getB zs 26 2 = v26 at N26 ⊢
  have e6 : bits .and .i64 (v6 / 64) 1 = v6 / 64 % 2 := i64_and_one _ (by omega) (by omega)
  clear hs hc hn hk u1 u8
  go_enter Try.func43, Try.ntmps43
  go_wp2_with (first
    | (go_at_call 49; ((with_reducible refine (K.out _ ?_).mono ?_); exact HB1.out; rintro e w' ⟨rfl, rfl⟩))
    | (go_at_call 50; ((with_reducible refine (N1.out _ ?_).mono ?_); (first | exact HB1.out | (repeat (first | exact HB1.out | refine Below.alloc ?_ (by simp) _ | refine Below.setCell ?_ (by simp) _))); rintro e w' ⟨rfl, rfl⟩))
    | (go_at_call 50; ((with_reducible refine (N4.out _ ?_).mono ?_); (first | exact HB1.out | (repeat (first | exact HB1.out | refine Below.alloc ?_ (by simp) _ | refine Below.setCell ?_ (by simp) _))); rintro e w' ⟨rfl, rfl⟩))
    | (go_at_call 50; ((with_reducible refine (N6.out _ ?_).mono ?_); (first | exact HB1.out | (repeat (first | exact HB1.out | refine Below.alloc ?_ (by simp) _ | refine Below.setCell ?_ (by simp) _))); rintro e w' ⟨rfl, rfl⟩))
    | (go_at_call 50; ((with_reducible refine (N8.out _ ?_).mono ?_); (first | exact HB1.out | (repeat (first | exact HB1.out | refine Below.alloc ?_ (by simp) _ | refine Below.setCell ?_ (by simp) _))); rintro e w' ⟨rfl, rfl⟩))
    | (go_at_call 50; ((with_reducible refine (N12.out _ ?_).mono ?_); (first | exact HB1.out | (repeat (first | exact HB1.out | refine Below.alloc ?_ (by simp) _ | refine Below.setCell ?_ (by simp) _))); rintro e w' ⟨rfl, rfl⟩))
    | (go_at_call 50; ((with_reducible refine (N16.out _ ?_).mono ?_); (first | exact HB1.out | (repeat (first | exact HB1.out | refine Below.alloc ?_ (by simp) _ | refine Below.setCell ?_ (by simp) _))); rintro e w' ⟨rfl, rfl⟩))
    | (go_at_call 50; ((with_reducible refine (N20.out _ ?_).mono ?_); (first | exact HB1.out | (repeat (first | exact HB1.out | refine Below.alloc ?_ (by simp) _ | refine Below.setCell ?_ (by simp) _))); rintro e w' ⟨rfl, rfl⟩))
    | (go_at_call 50; ((with_reducible refine (N22.out _ ?_).mono ?_); (first | exact HB1.out | (repeat (first | exact HB1.out | refine Below.alloc ?_ (by simp) _ | refine Below.setCell ?_ (by simp) _))); rintro e w' ⟨rfl, rfl⟩))
    | (go_at_call 50; ((with_reducible refine (N26.out _ ?_).mono ?_); (first | exact HB1.out | (repeat (first | exact HB1.out | refine Below.alloc ?_ (by simp) _ | refine Below.setCell ?_ (by simp) _))); rintro e w' ⟨rfl, rfl⟩))
    | fail)
  refine bodyPost_ret (v := .agg #[.int .i64 1, .int .i64 v1, .int .i64 v4, .int .i64 (v6 / 64 % 2), .int .i64 v8, .int .i64 v12, .int .i64 v16, .int .i64 v20, .int .i64 v22, .int .i64 v26, .int .i64 0, .int .i64 0, .int .i64 0, .int .i64 0, .int .i64 0]) (by simp [results, Try.results43, go_sem]) rfl ⟨rfl, rfl⟩

set_option maxRecDepth 100000 in
set_option maxHeartbeats 3200000 in
theorem header_two (a : Option Addr) (n cap : Nat) (zs : List Int) (w : World) (hs : Sl .u8 w a n zs) (hc : n ≤ cap) (hn : 40 ≤ n) (hk : rtpB zs = true) :
    Calls Try.prog 43 #[.slice a n cap] w fun e w' => e = .returned (.agg #[.int .i64 (fldR zs).kind, .int .i64 (fldR zs).tos, .int .i64 (fldR zs).id, .int .i64 (fldR zs).fixed, .int .i64 (fldR zs).ttl, .int .i64 (fldR zs).frm, .int .i64 (fldR zs).to, .int .i64 (fldR zs).fromPort, .int .i64 (fldR zs).toPort, .int .i64 (fldR zs).check, .int .i64 (fldR zs).marker, .int .i64 (fldR zs).type, .int .i64 (fldR zs).seq, .int .i64 (fldR zs).time, .int .i64 (fldR zs).source]) ∧ (w.alloc (.cells #[.int .i64 (fldR zs).kind, .int .i64 (fldR zs).tos, .int .i64 (fldR zs).id, .int .i64 (fldR zs).fixed, .int .i64 (fldR zs).ttl, .int .i64 (fldR zs).frm, .int .i64 (fldR zs).to, .int .i64 (fldR zs).fromPort, .int .i64 (fldR zs).toPort, .int .i64 (fldR zs).check, .int .i64 (fldR zs).marker, .int .i64 (fldR zs).type, .int .i64 (fldR zs).seq, .int .i64 (fldR zs).time, .int .i64 (fldR zs).source] 23)).alloc (.cells #[.int .i64 (fldR zs).kind, .int .i64 (fldR zs).tos, .int .i64 (fldR zs).id, .int .i64 (fldR zs).fixed, .int .i64 (fldR zs).ttl, .int .i64 (fldR zs).frm, .int .i64 (fldR zs).to, .int .i64 (fldR zs).fromPort, .int .i64 (fldR zs).toPort, .int .i64 (fldR zs).check, .int .i64 (fldR zs).marker, .int .i64 (fldR zs).type, .int .i64 (fldR zs).seq, .int .i64 (fldR zs).time, .int .i64 (fldR zs).source] 23) = w' := by
  have K := Lib.hid (fun W (hb : Below w.heap.size w W) => kind_any a n cap zs W (hs.keep hb))
  simp only [hk, if_true] at K
  have HB1 := Lib.hid ((Below.refl w.heap.size w).alloc (Nat.le_refl _) (.cells #[.int .i64 0, .int .i64 0, .int .i64 0, .int .i64 0, .int .i64 0, .int .i64 0, .int .i64 0, .int .i64 0, .int .i64 0, .int .i64 0, .int .i64 0, .int .i64 0, .int .i64 0, .int .i64 0, .int .i64 0] 23))
  have N1 := Lib.hid (fun W (hb : Below w.heap.size w W) => number_any a n cap 1 1 1 2 zs W (hs.keep hb) rfl rfl (by omega) (by omega) (by omega) hc)
  have N4 := Lib.hid (fun W (hb : Below w.heap.size w W) => number_any a n cap 4 2 4 6 zs W (hs.keep hb) rfl rfl (by omega) (by omega) (by omega) hc)
  have N6 := Lib.hid (fun W (hb : Below w.heap.size w W) => number_any a n cap 6 1 6 7 zs W (hs.keep hb) rfl rfl (by omega) (by omega) (by omega) hc)
  have N8 := Lib.hid (fun W (hb : Below w.heap.size w W) => number_any a n cap 8 1 8 9 zs W (hs.keep hb) rfl rfl (by omega) (by omega) (by omega) hc)
  have N12 := Lib.hid (fun W (hb : Below w.heap.size w W) => number_any a n cap 12 4 12 16 zs W (hs.keep hb) rfl rfl (by omega) (by omega) (by omega) hc)
  have N16 := Lib.hid (fun W (hb : Below w.heap.size w W) => number_any a n cap 16 4 16 20 zs W (hs.keep hb) rfl rfl (by omega) (by omega) (by omega) hc)
  have N20 := Lib.hid (fun W (hb : Below w.heap.size w W) => number_any a n cap 20 2 20 22 zs W (hs.keep hb) rfl rfl (by omega) (by omega) (by omega) hc)
  have N22 := Lib.hid (fun W (hb : Below w.heap.size w W) => number_any a n cap 22 2 22 24 zs W (hs.keep hb) rfl rfl (by omega) (by omega) (by omega) hc)
  have N26 := Lib.hid (fun W (hb : Below w.heap.size w W) => number_any a n cap 26 2 26 28 zs W (hs.keep hb) rfl rfl (by omega) (by omega) (by omega) hc)
  have N29 := Lib.hid (fun W (hb : Below w.heap.size w W) => number_any a n cap 29 1 29 30 zs W (hs.keep hb) rfl rfl (by omega) (by omega) (by omega) hc)
  have N30 := Lib.hid (fun W (hb : Below w.heap.size w W) => number_any a n cap 30 2 30 32 zs W (hs.keep hb) rfl rfl (by omega) (by omega) (by omega) hc)
  have N32 := Lib.hid (fun W (hb : Below w.heap.size w W) => number_any a n cap 32 4 32 36 zs W (hs.keep hb) rfl rfl (by omega) (by omega) (by omega) hc)
  have N36 := Lib.hid (fun W (hb : Below w.heap.size w W) => number_any a n cap 36 4 36 40 zs W (hs.keep hb) rfl rfl (by omega) (by omega) (by omega) hc)
  unfold fldR
  simp only [getB_one] at *
  have u1 := hs.u8 1
  generalize zs.getD 1 0 = v1 at N1 u1 ⊢
  generalize getB zs 4 2 = v4 at N4 ⊢
  have u6 := hs.u8 6
  generalize zs.getD 6 0 = v6 at N6 u6 ⊢
  have u8 := hs.u8 8
  generalize zs.getD 8 0 = v8 at N8 u8 ⊢
  generalize getB zs 12 4 = v12 at N12 ⊢
  generalize getB zs 16 4 = v16 at N16 ⊢
  generalize getB zs 20 2 = v20 at N20 ⊢
  generalize getB zs 22 2 = v22 at N22 ⊢
  generalize getB zs 26 2 = v26 at N26 ⊢
  have u29 := hs.u8 29
  generalize zs.getD 29 0 = v29 at N29 u29 ⊢
  generalize getB zs 30 2 = v30 at N30 ⊢
  generalize getB zs 32 4 = v32 at N32 ⊢
  generalize getB zs 36 4 = v36 at N36 ⊢
  have e6 : bits .and .i64 (v6 / 64) 1 = v6 / 64 % 2 := i64_and_one _ (by omega) (by omega)
  have e29 : bits .and .i64 v29 127 = v29 % 128 := i64_low7 _ (by omega) (by omega)
  clear hs hc hn hk u1 u8
  go_enter Try.func43, Try.ntmps43
  go_wp2_with (first
    | (go_at_call 49; ((with_reducible refine (K.out _ ?_).mono ?_); exact HB1.out; rintro e w' ⟨rfl, rfl⟩))
    | (go_at_call 50; ((with_reducible refine (N1.out _ ?_).mono ?_); (first | exact HB1.out | (repeat (first | exact HB1.out | refine Below.alloc ?_ (by simp) _ | refine Below.setCell ?_ (by simp) _))); rintro e w' ⟨rfl, rfl⟩))
    | (go_at_call 50; ((with_reducible refine (N4.out _ ?_).mono ?_); (first | exact HB1.out | (repeat (first | exact HB1.out | refine Below.alloc ?_ (by simp) _ | refine Below.setCell ?_ (by simp) _))); rintro e w' ⟨rfl, rfl⟩))
    | (go_at_call 50; ((with_reducible refine (N6.out _ ?_).mono ?_); (first | exact HB1.out | (repeat (first | exact HB1.out | refine Below.alloc ?_ (by simp) _ | refine Below.setCell ?_ (by simp) _))); rintro e w' ⟨rfl, rfl⟩))
    | (go_at_call 50; ((with_reducible refine (N8.out _ ?_).mono ?_); (first | exact HB1.out | (repeat (first | exact HB1.out | refine Below.alloc ?_ (by simp) _ | refine Below.setCell ?_ (by simp) _))); rintro e w' ⟨rfl, rfl⟩))
    | (go_at_call 50; ((with_reducible refine (N12.out _ ?_).mono ?_); (first | exact HB1.out | (repeat (first | exact HB1.out | refine Below.alloc ?_ (by simp) _ | refine Below.setCell ?_ (by simp) _))); rintro e w' ⟨rfl, rfl⟩))
    | (go_at_call 50; ((with_reducible refine (N16.out _ ?_).mono ?_); (first | exact HB1.out | (repeat (first | exact HB1.out | refine Below.alloc ?_ (by simp) _ | refine Below.setCell ?_ (by simp) _))); rintro e w' ⟨rfl, rfl⟩))
    | (go_at_call 50; ((with_reducible refine (N20.out _ ?_).mono ?_); (first | exact HB1.out | (repeat (first | exact HB1.out | refine Below.alloc ?_ (by simp) _ | refine Below.setCell ?_ (by simp) _))); rintro e w' ⟨rfl, rfl⟩))
    | (go_at_call 50; ((with_reducible refine (N22.out _ ?_).mono ?_); (first | exact HB1.out | (repeat (first | exact HB1.out | refine Below.alloc ?_ (by simp) _ | refine Below.setCell ?_ (by simp) _))); rintro e w' ⟨rfl, rfl⟩))
    | (go_at_call 50; ((with_reducible refine (N26.out _ ?_).mono ?_); (first | exact HB1.out | (repeat (first | exact HB1.out | refine Below.alloc ?_ (by simp) _ | refine Below.setCell ?_ (by simp) _))); rintro e w' ⟨rfl, rfl⟩))
    | (go_at_call 50; ((with_reducible refine (N29.out _ ?_).mono ?_); (first | exact HB1.out | (repeat (first | exact HB1.out | refine Below.alloc ?_ (by simp) _ | refine Below.setCell ?_ (by simp) _))); rintro e w' ⟨rfl, rfl⟩))
    | (go_at_call 50; ((with_reducible refine (N30.out _ ?_).mono ?_); (first | exact HB1.out | (repeat (first | exact HB1.out | refine Below.alloc ?_ (by simp) _ | refine Below.setCell ?_ (by simp) _))); rintro e w' ⟨rfl, rfl⟩))
    | (go_at_call 50; ((with_reducible refine (N32.out _ ?_).mono ?_); (first | exact HB1.out | (repeat (first | exact HB1.out | refine Below.alloc ?_ (by simp) _ | refine Below.setCell ?_ (by simp) _))); rintro e w' ⟨rfl, rfl⟩))
    | (go_at_call 50; ((with_reducible refine (N36.out _ ?_).mono ?_); (first | exact HB1.out | (repeat (first | exact HB1.out | refine Below.alloc ?_ (by simp) _ | refine Below.setCell ?_ (by simp) _))); rintro e w' ⟨rfl, rfl⟩))
    | fail)
  refine bodyPost_ret (v := .agg #[.int .i64 2, .int .i64 v1, .int .i64 v4, .int .i64 (v6 / 64 % 2), .int .i64 v8, .int .i64 v12, .int .i64 v16, .int .i64 v20, .int .i64 v22, .int .i64 v26, .int .i64 (v29 / 128), .int .i64 (v29 % 128), .int .i64 v30, .int .i64 v32, .int .i64 v36]) (by simp [results, Try.results43, go_sem]) rfl ⟨rfl, rfl⟩

def fldL (zs : List Int) : Hd := if rtpB zs = true then fldR zs else fldU zs
theorem header_any (a : Option Addr) (n cap : Nat) (zs : List Int) (w : World) (hs : Sl .u8 w a n zs) (hc : n ≤ cap) (hn : 28 ≤ n) :
    Calls Try.prog 43 #[.slice a n cap] w fun e w' => e = .returned (.agg #[.int .i64 (fldL zs).kind, .int .i64 (fldL zs).tos, .int .i64 (fldL zs).id, .int .i64 (fldL zs).fixed, .int .i64 (fldL zs).ttl, .int .i64 (fldL zs).frm, .int .i64 (fldL zs).to, .int .i64 (fldL zs).fromPort, .int .i64 (fldL zs).toPort, .int .i64 (fldL zs).check, .int .i64 (fldL zs).marker, .int .i64 (fldL zs).type, .int .i64 (fldL zs).seq, .int .i64 (fldL zs).time, .int .i64 (fldL zs).source]) ∧ (w.alloc (.cells #[.int .i64 (fldL zs).kind, .int .i64 (fldL zs).tos, .int .i64 (fldL zs).id, .int .i64 (fldL zs).fixed, .int .i64 (fldL zs).ttl, .int .i64 (fldL zs).frm, .int .i64 (fldL zs).to, .int .i64 (fldL zs).fromPort, .int .i64 (fldL zs).toPort, .int .i64 (fldL zs).check, .int .i64 (fldL zs).marker, .int .i64 (fldL zs).type, .int .i64 (fldL zs).seq, .int .i64 (fldL zs).time, .int .i64 (fldL zs).source] 23)).alloc (.cells #[.int .i64 (fldL zs).kind, .int .i64 (fldL zs).tos, .int .i64 (fldL zs).id, .int .i64 (fldL zs).fixed, .int .i64 (fldL zs).ttl, .int .i64 (fldL zs).frm, .int .i64 (fldL zs).to, .int .i64 (fldL zs).fromPort, .int .i64 (fldL zs).toPort, .int .i64 (fldL zs).check, .int .i64 (fldL zs).marker, .int .i64 (fldL zs).type, .int .i64 (fldL zs).seq, .int .i64 (fldL zs).time, .int .i64 (fldL zs).source] 23) = w' := by
  cases hk : rtpB zs with
  | true =>
    have h40 : 40 ≤ n := by
      unfold rtpB at hk
      rw [hs.len] at hk
      simp only [Bool.and_eq_true, decide_eq_true_eq] at hk
      exact hk.1
    have e : fldL zs = fldR zs := by unfold fldL; rw [if_pos hk]
    rw [e]; exact header_two a n cap zs w hs hc h40 hk
  | false =>
    have e : fldL zs = fldU zs := by unfold fldL; rw [if_neg (by rw [hk]; simp)]
    rw [e]; exact header_one a n cap zs w hs hc hn hk
end Go.Proofs.Ytfeeifemfhhijaa
