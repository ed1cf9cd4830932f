/-
  What the document's Decode reads (layer 8), plainly. (gen_rdecp.py writes this text.)
-/
import Derived.Test.YtkhcfmnebflgkaaDoorFmDecP
import Derived.Test.YtkhcfmnebflgkaaDoorJLow
namespace Go.Proofs.YtkhcfmnebflgkaaDoor
open Go Go.RowKit

theorem getB_one (zs : List Int) (p : Nat) : getB zs p 1 = zs.getD p 0 := by simp [getB]
theorem drop_getD (zs : List Int) (p i : Nat) : (zs.drop p).getD i 0 = zs.getD (p + i) 0 := by simp [List.getD_eq_getElem?_getD, List.getElem?_drop]
theorem drop_getB (zs : List Int) (p : Nat) : ∀ (m i : Nat), getB (zs.drop p) i m = getB zs (p + i) m
  | 0, _ => rfl
  | m + 1, i => by simp only [getB, drop_getB zs p m i, drop_getD]; congr 2; omega
theorem tv1 {zs : List Int} {p : Nat} (h : p + 1 ≤ zs.length) : tv zs p 1 = zs.getD p 0 := by rw [tv_ok h, getB_one]
def mB (x f : Int) : Sm := ⟨x, f, 0, 0, 0, 0, 0, ⟨0, 0, 0, 0, 0, 0, 0, 0, 0, 0, 0, 0, 0, 0, 0⟩, 0, 0, 0, none, 0, 0, []⟩
/-- the packet behind the switch, ahead of the kind's store in the small formats -/
def mS (x f k : Int) (zs : List Int) (p : Nat) : Sm :=
  if f = 1 then { mB x f with num := tv zs p 1 / 8, chk := tv zs p 1 % 8 }
  else if f = 2 then (if k = 2 then { mB x f with mark := tv zs p 1 / 32 % 2, num := tv zs p 1 % 32, time := tv zs (p + 1) 2, chk := tv zs (p + 1 + 2) 1 } else { mB x f with mark := tv zs p 1 / 32 % 2, num := tv zs p 1 % 32, chk := tv zs (p + 1) 1 })
  else if f = 3 then (if k = 2 then { mB x f with mark := tv zs p 1 % 2, num := tv zs (p + 1) 1, time := tv zs (p + 1 + 1) 4, id := tv zs (p + 1 + 1 + 4) 2, chk := tv zs (p + 1 + 1 + 4 + 2) 1 } else { mB x f with mark := tv zs p 1 % 2, num := tv zs (p + 1) 2, chk := tv zs (p + 1 + 2) 1 })
  else if f = 4 then (if k = 2 then { whl2 zs (p + 1) { mB x f with h := { (mB x f).h with kind := k } } with chk := tv zs (p + 1 + 14) 1 } else { whl1 zs (p + 1) { mB x f with h := { (mB x f).h with kind := k } } with chk := tv zs (p + 1 + 5) 1 })
  else if f = 5 then (if k = 2 then { whl2 zs (p + 1 + 1 + 4 + 4 + 2 + 2 + 4) { mB x f with h := ⟨k, 0, 0, 0, 0, tv zs (p + 1 + 1) 4, tv zs (p + 1 + 1 + 4) 4, tv zs (p + 1 + 1 + 4 + 4) 2, tv zs (p + 1 + 1 + 4 + 4 + 2) 2, 0, 0, 0, 0, 0, tv zs (p + 1 + 1 + 4 + 4 + 2 + 2) 4⟩ } with chk := tv zs (p + 1 + 1 + 4 + 4 + 2 + 2 + 4 + 14) 1 }
    else { whl1 zs (p + 1 + 1 + 4 + 4 + 2 + 2) { mB x f with h := ⟨k, 0, 0, 0, 0, tv zs (p + 1 + 1) 4, tv zs (p + 1 + 1 + 4) 4, tv zs (p + 1 + 1 + 4 + 4) 2, tv zs (p + 1 + 1 + 4 + 4 + 2) 2, 0, 0, 0, 0, 0, 0⟩ } with chk := tv zs (p + 1 + 1 + 4 + 4 + 2 + 2 + 5) 1 })
  else mB x f
/-- the flags -/
def mF (f k : Int) (zs : List Int) (p : Nat) : Int := if f = 4 then tv zs (p + 1 + 2) 1 else if f = 5 then (if k = 2 then tv zs (p + 1 + 1 + 4 + 4 + 2 + 2 + 4 + 2) 1 else tv zs (p + 1 + 1 + 4 + 4 + 2 + 2 + 2) 1) else 0
/-- .. with the kind -/
def mK (f k : Int) (s : Sm) : Sm := if f < 4 then { s with h := { s.h with kind := k } } else s

set_option maxRecDepth 100000 in
set_option maxHeartbeats 3200000 in
theorem mS_1_1 {x : Int} {zs : List Int} {p : Nat} (hz : Bytes zs) (h : p + 1 ≤ zs.length) (h1 : zs.getD p 0 < 128) : mK 1 1 (mS x 1 1 zs p) = rdS x 1 1 (zs.drop p) ∧ mF 1 1 zs p / 64 % 2 = ckF 1 1 (zs.drop p) := by
  have a0 := hz p
  rw [List.getD_eq_getElem?_getD] at a0 h1
  have t0 : tv zs p 1 = zs.getD p 0 := tv1 (by omega)
  refine ⟨?_, ?_⟩
  · simp [mK, mS, mB, rdS, rdS_1_1, t0]
    all_goals omega
  · simp [mF, ckF]
set_option maxRecDepth 100000 in
set_option maxHeartbeats 3200000 in
theorem mS_1_2 {x : Int} {zs : List Int} {p : Nat} (hz : Bytes zs) (h : p + 1 ≤ zs.length) (h1 : zs.getD p 0 < 128) : mK 1 2 (mS x 1 2 zs p) = rdS x 1 2 (zs.drop p) ∧ mF 1 2 zs p / 64 % 2 = ckF 1 2 (zs.drop p) := by
  have a0 := hz p
  rw [List.getD_eq_getElem?_getD] at a0 h1
  have t0 : tv zs p 1 = zs.getD p 0 := tv1 (by omega)
  refine ⟨?_, ?_⟩
  · simp [mK, mS, mB, rdS, rdS_1_2, t0]
    all_goals omega
  · simp [mF, ckF]
set_option maxRecDepth 100000 in
set_option maxHeartbeats 3200000 in
theorem mS_2_1 {x : Int} {zs : List Int} {p : Nat} (h : p + 2 ≤ zs.length) : mK 2 1 (mS x 2 1 zs p) = rdS x 2 1 (zs.drop p) ∧ mF 2 1 zs p / 64 % 2 = ckF 2 1 (zs.drop p) := by
  have t0 : tv zs p 1 = zs.getD p 0 := tv1 (by omega)
  have t1 : tv zs (p + 1) 1 = zs.getD (p + 1) 0 := tv1 (by omega)
  refine ⟨?_, ?_⟩
  · simp [mK, mS, mB, rdS, rdS_2_1, t0, t1]
  · simp [mF, ckF]
set_option maxRecDepth 100000 in
set_option maxHeartbeats 3200000 in
theorem mS_2_2 {x : Int} {zs : List Int} {p : Nat} (h : p + 4 ≤ zs.length) : mK 2 2 (mS x 2 2 zs p) = rdS x 2 2 (zs.drop p) ∧ mF 2 2 zs p / 64 % 2 = ckF 2 2 (zs.drop p) := by
  have t0 : tv zs p 1 = zs.getD p 0 := tv1 (by omega)
  have t1 : tv zs (p + 1) 2 = getB zs (p + 1) 2 := tv_ok (by omega)
  have t3 : tv zs (p + 3) 1 = zs.getD (p + 3) 0 := tv1 (by omega)
  refine ⟨?_, ?_⟩
  · simp [mK, mS, mB, rdS, rdS_2_2, drop_getB, Nat.add_assoc, t0, t1, t3]
  · simp [mF, ckF]
set_option maxRecDepth 100000 in
set_option maxHeartbeats 3200000 in
theorem mS_3_1 {x : Int} {zs : List Int} {p : Nat} (h : p + 4 ≤ zs.length) : mK 3 1 (mS x 3 1 zs p) = rdS x 3 1 (zs.drop p) ∧ mF 3 1 zs p / 64 % 2 = ckF 3 1 (zs.drop p) := by
  have t0 : tv zs p 1 = zs.getD p 0 := tv1 (by omega)
  have t1 : tv zs (p + 1) 2 = getB zs (p + 1) 2 := tv_ok (by omega)
  have t3 : tv zs (p + 3) 1 = zs.getD (p + 3) 0 := tv1 (by omega)
  refine ⟨?_, ?_⟩
  · simp [mK, mS, mB, rdS, rdS_3_1, drop_getB, Nat.add_assoc, t0, t1, t3]
  · simp [mF, ckF]
set_option maxRecDepth 100000 in
set_option maxHeartbeats 3200000 in
theorem mS_3_2 {x : Int} {zs : List Int} {p : Nat} (h : p + 9 ≤ zs.length) : mK 3 2 (mS x 3 2 zs p) = rdS x 3 2 (zs.drop p) ∧ mF 3 2 zs p / 64 % 2 = ckF 3 2 (zs.drop p) := by
  have t0 : tv zs p 1 = zs.getD p 0 := tv1 (by omega)
  have t1 : tv zs (p + 1) 1 = zs.getD (p + 1) 0 := tv1 (by omega)
  have t2 : tv zs (p + 2) 4 = getB zs (p + 2) 4 := tv_ok (by omega)
  have t6 : tv zs (p + 6) 2 = getB zs (p + 6) 2 := tv_ok (by omega)
  have t8 : tv zs (p + 8) 1 = zs.getD (p + 8) 0 := tv1 (by omega)
  refine ⟨?_, ?_⟩
  · simp [mK, mS, mB, rdS, rdS_3_2, drop_getB, Nat.add_assoc, t0, t1, t2, t6, t8]
  · simp [mF, ckF]
set_option maxRecDepth 100000 in
set_option maxHeartbeats 3200000 in
theorem mS_4_1 {x : Int} {zs : List Int} {p : Nat} (h : p + 7 ≤ zs.length) : mK 4 1 (mS x 4 1 zs p) = rdS x 4 1 (zs.drop p) ∧ mF 4 1 zs p / 64 % 2 = ckF 4 1 (zs.drop p) := by
  have t1 : tv zs (p + 1) 1 = zs.getD (p + 1) 0 := tv1 (by omega)
  have t2 : tv zs (p + 2) 1 = zs.getD (p + 2) 0 := tv1 (by omega)
  have t3 : tv zs (p + 3) 1 = zs.getD (p + 3) 0 := tv1 (by omega)
  have t4 : tv zs (p + 4) 2 = getB zs (p + 4) 2 := tv_ok (by omega)
  have t6 : tv zs (p + 6) 1 = zs.getD (p + 6) 0 := tv1 (by omega)
  refine ⟨?_, ?_⟩
  · simp [mK, mS, mB, whl1, whA, whB, rdS, rdS_4_1, drop_getB, Nat.add_assoc, t1, t2, t3, t4, t6]
  · simp [mF, ckF, Nat.add_assoc, t3]
set_option maxRecDepth 100000 in
set_option maxHeartbeats 3200000 in
theorem mS_4_2 {x : Int} {zs : List Int} {p : Nat} (h : p + 16 ≤ zs.length) : mK 4 2 (mS x 4 2 zs p) = rdS x 4 2 (zs.drop p) ∧ mF 4 2 zs p / 64 % 2 = ckF 4 2 (zs.drop p) := by
  have t1 : tv zs (p + 1) 1 = zs.getD (p + 1) 0 := tv1 (by omega)
  have t2 : tv zs (p + 2) 1 = zs.getD (p + 2) 0 := tv1 (by omega)
  have t3 : tv zs (p + 3) 1 = zs.getD (p + 3) 0 := tv1 (by omega)
  have t4 : tv zs (p + 4) 1 = zs.getD (p + 4) 0 := tv1 (by omega)
  have t5 : tv zs (p + 5) 2 = getB zs (p + 5) 2 := tv_ok (by omega)
  have t7 : tv zs (p + 7) 2 = getB zs (p + 7) 2 := tv_ok (by omega)
  have t9 : tv zs (p + 9) 4 = getB zs (p + 9) 4 := tv_ok (by omega)
  have t13 : tv zs (p + 13) 2 = getB zs (p + 13) 2 := tv_ok (by omega)
  have t15 : tv zs (p + 15) 1 = zs.getD (p + 15) 0 := tv1 (by omega)
  refine ⟨?_, ?_⟩
  · simp [mK, mS, mB, whl2, whA, whB, rdS, rdS_4_2, drop_getB, Nat.add_assoc, t1, t2, t3, t4, t5, t7, t9, t13, t15]
  · simp [mF, ckF, Nat.add_assoc, t3]
set_option maxRecDepth 100000 in
set_option maxHeartbeats 3200000 in
theorem mS_5_1 {x : Int} {zs : List Int} {p : Nat} (h : p + 20 ≤ zs.length) (h5 : zs.getD (p + 1) 0 = 1) : mK 5 1 (mS x 5 1 zs p) = rdS x 5 1 (zs.drop p) ∧ mF 5 1 zs p / 64 % 2 = ckF 5 1 (zs.drop p) := by
  rw [List.getD_eq_getElem?_getD] at h5
  have t2 : tv zs (p + 2) 4 = getB zs (p + 2) 4 := tv_ok (by omega)
  have t6 : tv zs (p + 6) 4 = getB zs (p + 6) 4 := tv_ok (by omega)
  have t10 : tv zs (p + 10) 2 = getB zs (p + 10) 2 := tv_ok (by omega)
  have t12 : tv zs (p + 12) 2 = getB zs (p + 12) 2 := tv_ok (by omega)
  have t14 : tv zs (p + 14) 1 = zs.getD (p + 14) 0 := tv1 (by omega)
  have t15 : tv zs (p + 15) 1 = zs.getD (p + 15) 0 := tv1 (by omega)
  have t16 : tv zs (p + 16) 1 = zs.getD (p + 16) 0 := tv1 (by omega)
  have t17 : tv zs (p + 17) 2 = getB zs (p + 17) 2 := tv_ok (by omega)
  have t19 : tv zs (p + 19) 1 = zs.getD (p + 19) 0 := tv1 (by omega)
  refine ⟨?_, ?_⟩
  · simp [mK, mS, mB, whl1, whA, whB, rdS, rdS_5_1, drop_getB, Nat.add_assoc, t2, t6, t10, t12, t14, t15, t16, t17, t19, h5]
  · simp [mF, ckF, Nat.add_assoc, t16]
set_option maxRecDepth 100000 in
set_option maxHeartbeats 3200000 in
theorem mS_5_2 {x : Int} {zs : List Int} {p : Nat} (h : p + 33 ≤ zs.length) (h5 : zs.getD (p + 1) 0 = 2) : mK 5 2 (mS x 5 2 zs p) = rdS x 5 2 (zs.drop p) ∧ mF 5 2 zs p / 64 % 2 = ckF 5 2 (zs.drop p) := by
  rw [List.getD_eq_getElem?_getD] at h5
  have t2 : tv zs (p + 2) 4 = getB zs (p + 2) 4 := tv_ok (by omega)
  have t6 : tv zs (p + 6) 4 = getB zs (p + 6) 4 := tv_ok (by omega)
  have t10 : tv zs (p + 10) 2 = getB zs (p + 10) 2 := tv_ok (by omega)
  have t12 : tv zs (p + 12) 2 = getB zs (p + 12) 2 := tv_ok (by omega)
  have t14 : tv zs (p + 14) 4 = getB zs (p + 14) 4 := tv_ok (by omega)
  have t18 : tv zs (p + 18) 1 = zs.getD (p + 18) 0 := tv1 (by omega)
  have t19 : tv zs (p + 19) 1 = zs.getD (p + 19) 0 := tv1 (by omega)
  have t20 : tv zs (p + 20) 1 = zs.getD (p + 20) 0 := tv1 (by omega)
  have t21 : tv zs (p + 21) 1 = zs.getD (p + 21) 0 := tv1 (by omega)
  have t22 : tv zs (p + 22) 2 = getB zs (p + 22) 2 := tv_ok (by omega)
  have t24 : tv zs (p + 24) 2 = getB zs (p + 24) 2 := tv_ok (by omega)
  have t26 : tv zs (p + 26) 4 = getB zs (p + 26) 4 := tv_ok (by omega)
  have t30 : tv zs (p + 30) 2 = getB zs (p + 30) 2 := tv_ok (by omega)
  have t32 : tv zs (p + 32) 1 = zs.getD (p + 32) 0 := tv1 (by omega)
  refine ⟨?_, ?_⟩
  · simp [mK, mS, mB, whl2, whA, whB, rdS, rdS_5_2, drop_getB, Nat.add_assoc, t2, t6, t10, t12, t14, t18, t19, t20, t21, t22, t24, t26, t30, t32, h5]
  · simp [mF, ckF, Nat.add_assoc, t20]
set_option maxRecDepth 100000 in
set_option maxHeartbeats 3200000 in
theorem mS_6_0 {x : Int} {zs : List Int} {p : Nat} : mK 6 0 (mS x 6 0 zs p) = rdS x 6 0 (zs.drop p) ∧ mF 6 0 zs p / 64 % 2 = ckF 6 0 (zs.drop p) := by
  refine ⟨?_, ?_⟩
  · simp [mK, mS, mB, rdS, rdS_6_0]
  · simp [mF, ckF]
end Go.Proofs.YtkhcfmnebflgkaaDoor
