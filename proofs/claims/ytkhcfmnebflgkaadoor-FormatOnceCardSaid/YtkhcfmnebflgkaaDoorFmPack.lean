/-
  The program's pack of layer 8: numbers of fields packed.
-/
import Derived.Test.YtkhcfmnebflgkaaDoorJLow
namespace Go.Proofs.YtkhcfmnebflgkaaDoor
open Go Go.RowKit

theorem infoI : (Tryd.prog.info? 3).map (fun i => (i.zero, i.size, i.bytes)) = some (some (.int .i64 0), 1, 8) := by kernel_rfl
theorem i64_wf {z : Int} (h0 : -9223372036854775808 ≤ z) (h1 : z ≤ 9223372036854775807) : (Lit.int .i64 z).wf = true := by
  simpa [Lit.wf, IntKind.min, IntKind.max, IntKind.signed, IntKind.bits] using And.intro h0 h1
theorem take_snocD (xs : List Int) (j : Nat) (h : j < xs.length) : xs.take (j + 1) = xs.take j ++ [xs.getD j 0] := by
  rw [List.take_succ_eq_append_getElem h, List.getD_eq_getElem?_getD, List.getElem?_eq_getElem h]; rfl

theorem lies_of {w1 : World} {v : Value} {g n c : Nat} (hl : v.ownBlock = some g ∨ g = w1.heap.size) : ∀ k, (Value.slice (some ⟨g, 0, none⟩) n c).ownBlock = some k → v.ownBlock = some k ∨ w1.heap.size ≤ k := by
  intro k e
  obtain rfl : g = k := Option.some.inj e
  rcases hl with hl | hl
  · exact .inl hl
  · exact .inr (by rw [hl]; exact Nat.le_refl _)
/-- what pack leaves -/
def PackR (zs : List Int) (w : World) (e : Ending) (w' : World) : Prop := ∃ a m cap, e = .returned (.slice a m cap) ∧ (a = none → cap = 0) ∧ Mk .u8 5 w.heap.size w' (.slice a m cap) m zs ∧ Below w.heap.size w w'

set_option maxRecDepth 100000 in
set_option maxHeartbeats 6400000 in
theorem pack_any (G B g n cap : Nat) (fs : List (Int × Nat)) (ws vs : List Int) (w : World) (hfr : FR G B w (.slice (some ⟨g, 0, none⟩) n cap) n fs) (hn : n ≤ 256) (hws : ws = fs.map (·.1)) (hvl : vs.length = n)
    (hv : ∀ i, i < n → w.cell? ⟨G, (fs.getD i (0, 0)).2, none⟩ = some (.int .i64 (vs.getD i 0))) (hwf : ∀ i, i < n → (-9223372036854775808 ≤ ws.getD i 0 ∧ ws.getD i 0 ≤ 9223372036854775807) ∧ -9223372036854775808 ≤ vs.getD i 0 ∧ vs.getD i 0 ≤ 9223372036854775807) :
    Calls Tryd.prog 30 #[.slice (some ⟨g, 0, none⟩) n cap] w (PackR (packV ws vs) w) := by
  have hwl : ws.length = n := by rw [hws, List.length_map, hfr.len]
  have hw0 : ∀ i, i < n → ws.getD i 0 = (fs.getD i (0, 0)).1 := fun i hi => by
    rw [hws, List.getD_eq_getElem?_getD, List.getElem?_map, List.getD_eq_getElem?_getD, List.getElem?_eq_getElem (by rw [hfr.len]; exact hi)]; rfl
  have HF := Lib.hid hfr
  have HV := Lib.hid hv
  have HW := Lib.hid hwf
  have HWL := Lib.hid hwl
  have HVL := Lib.hid hvl
  have HW0 := Lib.hid hw0
  clear hfr hv hwf hws hwl hvl hw0
  go_enter Tryd.func30, Tryd.ntmps30
  go_wp2_with fail
  have HE : Hid (Two .i64 .i64 3 3 w.heap.size ((w.alloc (.cells #[] 3)).alloc (.cells #[] 3)) (.slice (some ⟨w.heap.size, 0, none⟩) 0 0) 0 [] (.slice (some ⟨w.heap.size + 1, 0, none⟩) 0 0) 0 []) := by
    refine Lib.hid ⟨(Mk.empty .i64 3 w.heap.size w (Nat.le_refl _)).alloc _, ?_, ?_⟩
    · have := Mk.empty .i64 3 w.heap.size (w.alloc (.cells #[] 3)) (by simp)
      simpa using this
    · intro g1 e1 e2
      simp [Value.ownBlock] at e1 e2
      omega
  have HEB := Lib.hid (((Below.refl w.heap.size w).alloc (Nat.le_refl _) (.cells #[] 3)).alloc (by simp) (.cells #[] 3))
  go_loopw [3, 4, 13] (fun s3 s4 s13 wr => ∃ (j : Nat) (v3 v4 : Value), j ≤ n ∧ s13 = .int .i64 j ∧ v3 = s3 ∧ v4 = s4 ∧ Two .i64 .i64 3 3 w.heap.size wr v3 j (ws.take j) v4 j (vs.take j) ∧ Below w.heap.size w wr) (fun _ _ s13 _ => n - (intOf s13).toNat)
  case atStart => exact ⟨0, _, _, by omega, by simp, rfl, rfl, by simpa using HE.out, HEB.out⟩
  case round =>
    obtain ⟨j, v3, v4, hj, rfl, rfl, rfl, htwo, hb⟩ := hrel
    have HT := Lib.hid htwo
    have HB := Lib.hid hb
    clear htwo hb
    by_cases hlt : j < n
    · have hq := (HF.out.keep HB.out).at hlt
      rw [← HW0.out j hlt, Nat.mul_comm 2 j] at hq
      obtain ⟨f0, f1⟩ := hq
      have hy := (HB.out.cell (p := ⟨G, (fs.getD j (0, 0)).2, none⟩) (World.block_lt_of_cell? w _ (HV.out j hlt))).trans (HV.out j hlt)
      have HV0 := Lib.hid (HV.out j hlt)
      have hGw : G < w.heap.size := World.block_lt_of_cell? w _ HV0.out
      have hlg : G < wr.heap.size := World.block_lt_of_cell? wr _ hy
      obtain ⟨hwx, hwy⟩ := HW.out j hlt
      have hxw := i64_wf hwx.1 hwx.2
      have hyw := i64_wf hwy.1 hwy.2
      have TX := Lib.hid (take_snocD ws j (by rw [HWL.out]; exact hlt))
      have TY := Lib.hid (take_snocD vs j (by rw [HVL.out]; exact hlt))
      have HY0 := Lib.hid hy
      generalize ws.getD j 0 = x at f0 hxw TX hwx
      generalize vs.getD j 0 = y at hy hyw TY hwy HY0 HV0
      generalize (fs.getD j (0, 0)).2 = q at f1 hy HY0 HV0
      have hsz := HB.out.size
      have K6 := heap_alloc_new wr (.cells #[.int .i64 x, .pointer (some ⟨G, q, none⟩)] 65)
      have B6 := Lib.hid (HB.out.alloc hsz (.cells #[.int .i64 x, .pointer (some ⟨G, q, none⟩)] 65))
      have T6 := Lib.hid (HT.out.alloc (.cells #[.int .i64 x, .pointer (some ⟨G, q, none⟩)] 65))
      have Hs6 : (wr.alloc (.cells #[.int .i64 x, .pointer (some ⟨G, q, none⟩)] 65)).heap.size = wr.heap.size + 1 := by simp
      have hyb := (World.cell?_of_block (heap_alloc_old wr (.cells #[.int .i64 x, .pointer (some ⟨G, q, none⟩)] 65) hlg)).trans HY0.out
      have HLX := (Mk.lit .i64 3 w.heap.size (wr.alloc (.cells #[.int .i64 x, .pointer (some ⟨G, q, none⟩)] 65)) [x] 1 (by rw [Hs6]; omega) rfl (by omega) (fun z hz => by simp at hz; subst hz; exact hxw)).sl
      rw [Hs6] at HLX
      simp only [List.map_cons, List.map_nil] at HLX
      have HLX := Lib.hid HLX
      have HP := Lib.hid (cells_of K6 1)
      have B7 := Lib.hid (B6.out.alloc (by rw [Hs6]; omega) (.cells #[.int .i64 x] 3))
      clear K6 hy
      have HS6 := Lib.hid Hs6
      clear Hs6 hyb
      go_upto_region 6 with (first
        | (at_builtin; refine wpList_push_at rfl (.tmp 17) (.tmp 20) 35 rfl .i64 3 w.heap.size 8 Tryd.underlying35 infoI v3 j (ws.take j) rfl (T6.out.alloc _).m1 x (wr.heap.size + 1) 0 1 HLX.out rfl (by omega) (by omega) (by simp; omega) ?_; intro g3 c3 w5 hm hg hl)
        | fail)
      rw [← TX.out] at hm
      have T5 := Lib.hid ((T6.out.alloc _).push1 hm hg (lies_of hl))
      have B5 := Lib.hid (B7.out.trans (Below.of_row hg (fun g e => (T6.out.m1.own_ge g e).1) B7.out.size))
      have hp5 : w5.cell? ⟨wr.heap.size, 1, none⟩ = some (.pointer (some ⟨G, q, none⟩)) := hg.cell ((World.cell?_of_block (heap_alloc_old _ _ (by rw [HS6.out]; exact Nat.lt_succ_self _))).trans HP.out) (fun e => by have := (HT.out.m1.own_ge _ e.symm).2; simp at this)
      have hy5 := (B5.out.cell (p := ⟨G, q, none⟩) hGw).trans HV0.out
      have LY0 := (Mk.lit .i64 3 w.heap.size w5 [y] 1 B5.out.size rfl (by omega) (fun z hz => by simp at hz; subst hz; exact hyw)).sl
      have LY := Lib.hid LY0
      clear LY0 hm hg hl f0 f1
      go_wp2_with (first
        | (at_builtin; refine wpList_push_at rfl (.tmp 22) (.tmp 27) 35 rfl .i64 3 w.heap.size 8 Tryd.underlying35 infoI v4 j (vs.take j) rfl (T5.out.alloc _).m2 y w5.heap.size 0 1 LY.out rfl (by omega) (by omega) (by simp; exact Nat.le_succ_of_le B5.out.size) ?_; intro g4 c4 w7 hm hg hl; rw [← TY.out] at hm; have T7 := Lib.hid ((T5.out.alloc _).push2 hm hg (lies_of hl)); have B8 := Lib.hid ((B5.out.alloc B5.out.size _).trans (Below.of_row hg (fun g e => (T5.out.m2.own_ge g e).1) (by simp; exact Nat.le_succ_of_le B5.out.size))); clear hm hg hl hp5 hy5)
        | fail)
      go_roundw
      case rel => exact ⟨j + 1, _, _, by omega, by go_num, rfl, rfl, T7.out, B8.out⟩
      case measure => simp [intOf]; omega
    · obtain rfl : j = n := by omega
      obtain ⟨a3, p3, rfl, _⟩ := HT.out.m1.slice
      obtain ⟨a4, p4, rfl, _⟩ := HT.out.m2.slice
      have M3 := HT.out.m1.sl
      have M4 := HT.out.m2.sl
      rw [List.take_of_length_le (by rw [HWL.out]; exact Nat.le_refl _)] at M3
      rw [List.take_of_length_le (by rw [HVL.out]; exact Nat.le_refl _)] at M4
      have S3 := Lib.hid M3
      have S4 := Lib.hid M4
      clear M3 M4
      go_wp2_with (first | (go_at_call 61; ((with_reducible refine (Pack_any _ _ _ _ _ _ ws vs _ S3.out S4.out).mono ?_); rintro e w7 ⟨a, m, cp, rfl, hnil, hmk, hbe⟩; have HMK := Lib.hid hmk; have HNL := Lib.hid hnil; have HBE := Lib.hid (HB.out.trans (hbe.mono HB.out.size)); clear hmk hnil hbe)) | fail)
      go_ret
      exact ⟨a, m, cp, rfl, HNL.out, HMK.out.mono HB.out.size, HBE.out⟩
end Go.Proofs.YtkhcfmnebflgkaaDoor
