/-
  The program's Encode of layer 8.
-/
import Derived.Test.YtkhcfmnebflgkaaDoorFmEnc
import Derived.Test.YtkhcfmnebflgkaaDoorFmFlds2
import Derived.Test.YtkhcfmnebflgkaaDoorFmPack
import Derived.Test.YtkhcfmnebflgkaaDoorFmVal3
namespace Go.Proofs.YtkhcfmnebflgkaaDoor
open Go Go.RowKit

/-- how the formats begin: the cells of the program's table -/
def startL : List Value := [.int .i64 0, .int .i64 0, .int .i64 1, .int .i64 0, .int .i64 2, .int .i64 2, .int .i64 7, .int .i64 96, .int .i64 8, .int .i64 208, .int .i64 8, .int .i64 209, .int .i64 8, .int .i64 210]
def St (w : World) : Prop := ∀ i v, startL[i]? = some v → w.cell? ⟨0, i, none⟩ = some v
theorem St.keep {w w' : World} (h : St w) (hb : Below w.heap.size w w') : St w' := fun i v hv => by
  have c := h i v hv
  exact (hb.cell (p := ⟨0, i, none⟩) (World.block_lt_of_cell? w _ c)).trans c
theorem St.pos {w : World} (h : St w) : 0 < w.heap.size := World.block_lt_of_cell? w _ (h 0 _ rfl)
theorem St.at {w : World} (h : St w) {f : Int} (hf : 1 ≤ f ∧ f ≤ 6) : w.cell? ⟨0, f.toNat * 2 + 1, none⟩ = some (.int .i64 (startV f)) := by
  rcases (show f = 1 ∨ f = 2 ∨ f = 3 ∨ f = 4 ∨ f = 5 ∨ f = 6 by omega) with rfl | rfl | rfl | rfl | rfl | rfl <;> exact h _ _ rfl

/-- the fields of a format -/
theorem fields_any2 (G : Nat) (f k : Int) (w : World) (v : FK f k) (hf : w.cell? ⟨G, 1, none⟩ = some (.int .i64 f)) (hk : w.cell? ⟨G, 7, none⟩ = some (.int .i64 k)) (hs : St w) :
    Calls Tryd.prog 28 #[.pointer (some ⟨G, 0, none⟩)] w (FldR G (fldL f k) w) := by
  rcases v with ⟨f', k'⟩ | ⟨rfl, rfl⟩
  · rcases (show f = 1 ∨ f = 2 ∨ f = 3 ∨ f = 4 ∨ f = 5 by omega) with rfl | rfl | rfl | rfl | rfl <;> rcases k' with rfl | rfl
    · exact flds_1_1 G w hf hk (hs _ _ rfl)
    · exact flds_1_2 G w hf hk (hs _ _ rfl)
    · exact flds_2_1 G w hf hk (hs _ _ rfl)
    · exact flds_2_2 G w hf hk (hs _ _ rfl)
    · exact flds_3_1 G w hf hk (hs _ _ rfl)
    · exact flds_3_2 G w hf hk (hs _ _ rfl)
    · exact flds_4_1 G w hf hk (hs _ _ rfl)
    · exact flds_4_2 G w hf hk (hs _ _ rfl)
    · exact flds_5_1 G w hf hk (hs _ _ rfl)
    · exact flds_5_2 G w hf hk (hs _ _ rfl)
  · exact flds_6_0 G w hf hk (hs _ _ rfl)

def ckAt (f : Int) : Nat := if f = 4 ∨ f = 5 then 16 else 6
set_option maxHeartbeats 800000 in
theorem checksum_any (G : Nat) (f : Int) (w : World) (hf : w.cell? ⟨G, 1, none⟩ = some (.int .i64 f)) :
    Calls Tryd.prog 29 #[.pointer (some ⟨G, 0, none⟩)] w fun e w' => e = .returned (.pointer (some ⟨G, ckAt f, none⟩)) ∧ w = w' := by
  have go : ∀ (b4 b5 : Bool), (f == 4) = b4 → (f == 5) = b5 → Calls Tryd.prog 29 #[.pointer (some ⟨G, 0, none⟩)] w fun e w' => e = .returned (.pointer (some ⟨G, if (b4 || b5) = true then 16 else 6, none⟩)) ∧ w = w' := by
    intro b4 b5 h4 h5
    cases b4 <;> cases b5
    all_goals
      go_enter Tryd.func29, Tryd.ntmps29
      go_wp2_with fail
      go_ret
      exact ⟨rfl, rfl⟩
  have e : ckAt f = if ((f == 4) || (f == 5)) = true then 16 else 6 := by unfold ckAt; simp
  rw [e]
  exact go _ _ rfl rfl

/-- what Encode leaves for valid parts -/
def EncR (zs : List Int) (w : World) (e : Ending) (w' : World) : Prop := ∃ a m cap, e = .returned (.tuple #[.slice a m cap, .int .i64 0]) ∧ (a = none → cap = 0) ∧ Mk .u8 5 w.heap.size w' (.slice a m cap) m zs ∧ Below w.heap.size w w'

set_option maxRecDepth 100000 in
set_option maxHeartbeats 6400000 in
theorem enc_no (s : Sm) (w : World) (hf : s.h.Fits) (v : smB s = false) :
    Calls Tryd.prog 10 #[(.agg #[.int .i64 s.ctx, .int .i64 s.fmt, .int .i64 s.num, .int .i64 s.time, .int .i64 s.mark, .int .i64 s.id, .int .i64 s.udp, .int .i64 s.h.kind, .int .i64 s.h.tos, .int .i64 s.h.id, .int .i64 s.h.fixed, .int .i64 s.h.ttl, .int .i64 s.h.frm, .int .i64 s.h.to, .int .i64 s.h.fromPort, .int .i64 s.h.toPort, .int .i64 s.h.check, .int .i64 s.h.marker, .int .i64 s.h.type, .int .i64 s.h.seq, .int .i64 s.h.time, .int .i64 s.h.source, .int .i64 s.ds, .int .i64 s.df, .int .i64 s.chk, .slice s.pa s.pn s.pc])] w fun e w' => e = .returned (.tuple #[.slice none 0 0, .int .i64 1]) ∧ Below w.heap.size w w' := by
  have KA := Lib.hid (heap_alloc_new w (.cells #[.int .i64 s.ctx, .int .i64 s.fmt, .int .i64 s.num, .int .i64 s.time, .int .i64 s.mark, .int .i64 s.id, .int .i64 s.udp, .int .i64 s.h.kind, .int .i64 s.h.tos, .int .i64 s.h.id, .int .i64 s.h.fixed, .int .i64 s.h.ttl, .int .i64 s.h.frm, .int .i64 s.h.to, .int .i64 s.h.fromPort, .int .i64 s.h.toPort, .int .i64 s.h.check, .int .i64 s.h.marker, .int .i64 s.h.type, .int .i64 s.h.seq, .int .i64 s.h.time, .int .i64 s.h.source, .int .i64 s.ds, .int .i64 s.df, .int .i64 s.chk, .slice s.pa s.pn s.pc] 28))
  have BW := Lib.hid ((Below.refl w.heap.size w).alloc (Nat.le_refl _) (.cells #[.int .i64 s.ctx, .int .i64 s.fmt, .int .i64 s.num, .int .i64 s.time, .int .i64 s.mark, .int .i64 s.id, .int .i64 s.udp, .int .i64 s.h.kind, .int .i64 s.h.tos, .int .i64 s.h.id, .int .i64 s.h.fixed, .int .i64 s.h.ttl, .int .i64 s.h.frm, .int .i64 s.h.to, .int .i64 s.h.fromPort, .int .i64 s.h.toPort, .int .i64 s.h.check, .int .i64 s.h.marker, .int .i64 s.h.type, .int .i64 s.h.seq, .int .i64 s.h.time, .int .i64 s.h.source, .int .i64 s.ds, .int .i64 s.df, .int .i64 s.chk, .slice s.pa s.pn s.pc] 28))
  have CV := Lib.hid (fun W => Valid08_any s W hf)
  rw [v] at CV
  clear v hf
  go_enter Tryd.func10, Tryd.ntmps10
  go_upto_region 1 with fail
  refine wp_region_lit ?_
  refine wpList_load_sm KA.out rfl _ rfl rfl ?_
  go_wp2_with (first | (go_at_call 13; ((with_reducible refine (CV.out _).mono ?_); rintro e w2 ⟨rfl, hb⟩)) | fail)
  go_ret2
  exact ⟨rfl, BW.out.trans (hb.mono BW.out.size)⟩
end Go.Proofs.YtkhcfmnebflgkaaDoor
