/-
  The program's functions of layer 5 on bytes: appendNumbers, putWord, number, kind, headSize; bytes.Equal, bytes.Clone.
-/
import Derived.Test.YtfeeifemfhhijaaPkPlain
import Derived.Test.YtfeeifemfhhijaaPkFld
import Derived.Test.YtfeeifemfhhijaaSame
import Derived.Test.YtfeeifemfhhijaaProg
namespace Go.Proofs.Ytfeeifemfhhijaa
open Go Go.RowKit

/-- the bytes of some numbers, M bytes each -/
def numB (M : Nat) (xs : List Int) : List Int := xs.flatMap fun x => putB M x M
theorem numB_len (M : Nat) (xs : List Int) : (numB M xs).length = M * xs.length := by
  unfold numB
  induction xs with
  | nil => simp
  | cons x xs ih => rw [List.flatMap_cons, List.length_append, ih, putB_len, List.length_cons, Nat.mul_succ]; omega
theorem numB_snoc (M : Nat) (xs : List Int) (t : Nat) (h : t < xs.length) : numB M (xs.take (t + 1)) = numB M (xs.take t) ++ putB M (xs.getD t 0) M := by
  unfold numB
  rw [List.take_succ_eq_append_getElem h, List.flatMap_append, List.getD_eq_getElem?_getD, List.getElem?_eq_getElem h]
  simp

set_option maxRecDepth 100000 in
set_option maxHeartbeats 3200000 in
theorem appN_any (B : Nat) (a : Option Addr) (n cap M : Nat) (na : Option Addr) (nn nc : Nat) (zs xs : List Int) (w : World) (hm : Mk .u8 5 B w (.slice a n cap) n zs) (ha : a = none → cap = 0) (hB : B ≤ w.heap.size)
    (hx : Sl .i64 w na nn xs) (hap : ∀ x, na = some x → 0 < nn → some x.block ≠ (Value.slice a n cap).ownBlock) (hM : M ≤ 8) (hr : n + M * nn ≤ 140737488355328) :
    Calls Try.prog 40 #[.slice a n cap, .int .i64 M, .slice na nn nc] w fun e w' => ∃ ao cp, e = .returned (.slice ao (n + M * nn) cp) ∧ Grew .u8 5 B w w' (.slice a n cap) (.slice ao (n + M * nn) cp) (n + M * nn) (zs ++ numB M xs) ∧ (ao = none → cp = 0) := by
  have G0 := Lib.hid (Grew.refl hm)
  have Ha := Lib.hid ha
  have hxl := hx.len
  have hxr := hx.reach
  have Hx : Hid (∀ wr, w.grownBy wr (Value.slice a n cap).ownBlock → Sl .i64 wr na nn xs) := Lib.hid (fun wr hg => hx.keepRow hg hap)
  have HS : Hid (∀ t, t < nn → numB M (xs.take (t + 1)) = numB M (xs.take t) ++ putB M (xs.getD t 0) M) := Lib.hid (fun t h => numB_snoc M xs t (by omega))
  have HP : Hid (∀ t, t ≤ nn → M * t ≤ M * nn) := Lib.hid (fun t h => Nat.mul_le_mul_left M h)
  have HT : Hid (xs.take nn = xs) := Lib.hid (List.take_of_length_le (by omega))
  clear hm ha hx hap hxl
  go_enter Try.func40, Try.ntmps40
  go_wp2
  go_loopw [0, 12] (fun v i wr => ∃ (t N : Nat) (o : Option Addr) (p : Nat), t ≤ nn ∧ Hid (N = n + M * t) ∧ i = .int .i64 (t : Int) ∧ v = .slice o N p ∧ (o = none → p = 0) ∧ Grew .u8 5 B w wr (.slice a n cap) (.slice o N p) N (zs ++ numB M (xs.take t))) (fun _ i _ => (nn - (intOf i).toNat))
  case atStart => exact ⟨0, n, a, cap, by omega, Lib.hid (by simp), rfl, rfl, Ha.out, by simpa [numB] using G0.out⟩
  case round =>
    obtain ⟨t, N, o, p, ht, HNt, rfl, rfl, ho, hg⟩ := hrel
    have Ho := Lib.hid ho
    have Hg := Lib.hid hg
    clear ho hg
    by_cases hlt : t < nn
    · have hx2 := Hx.out wr Hg.out.grown
      obtain ⟨xb, xo, rfl⟩ := hx2.head (by omega)
      have c0 := hx2.at hlt
      have z0 := hx2.i64 t
      have hI : (t : Int) < (nn : Int) := by omega
      have HS2 := Lib.hid (HS.out t hlt)
      have hP2 := HP.out (t + 1) hlt
      have hP1 : M * (t + 1) = M * t + M := Nat.mul_succ M t
      have hNM : N + M ≤ 140737488355328 := by have := HNt.out; omega
      have HN3 : Hid (N + M = n + M * (t + 1)) := Lib.hid (by have := HNt.out; omega)
      clear hx2 hP2 hP1
      generalize xs.getD t 0 = x at c0 z0 HS2
      generalize numB M (xs.take t) = ys at HS2 Hg
      go_wp2
      go_loopw [0, 17] (fun v i ws => ∃ (s : Nat) (o2 : Option Addr) (p2 : Nat), s ≤ M ∧ i = .int .i64 (s : Int) ∧ v = .slice o2 (N + s) p2 ∧ (o2 = none → p2 = 0) ∧ Grew .u8 5 B w ws (.slice a n cap) (.slice o2 (N + s) p2) (N + s) (zs ++ ys ++ putB M x s)) (fun _ i _ => (M - (intOf i).toNat))
      case atStart => exact ⟨0, o, p, by omega, rfl, rfl, Ho.out, by simpa [putB] using Hg.out⟩
      case round =>
        obtain ⟨s, o2, p2, hs, rfl, rfl, ho2, hg2⟩ := hrel
        have hsz : B ≤ wr.heap.size := Nat.le_trans hB hg2.grown.size
        have Ho2 := Lib.hid ho2
        have Hg2 := Lib.hid hg2
        clear ho2 hg2
        by_cases hls : s < M
        · obtain ⟨I, hIe⟩ : ∃ I : Nat, I = M - 1 - s := ⟨_, rfl⟩
          have hIz : (M : Int) - 1 - (s : Int) = (I : Int) := by omega
          have hI8 : I ≤ 7 := by omega
          have hI0 : (0 : Int) ≤ (I : Int) := by omega
          have S1 := Lib.hid (putB_succ M x s)
          rw [← hIe] at S1
          have W1 : Hid ((Lit.int .u8 (x / 2 ^ (8 * I) % 256)).wf = true) := Lib.hid (byte_wf (Int.emod_nonneg _ (by decide)) (by have := Int.emod_lt_of_pos (x / 2 ^ (8 * I)) (show (0 : Int) < 256 by decide); omega))
          clear hIe
          go_wp2_with (first
            | (at_builtin; refine wpList_push_at rfl (.tmp 20) (.tmp 29) 24 rfl .u8 5 B 1 Try.underlying24 info_u8 (.slice o2 (N + s) p2) (N + s) (zs ++ ys ++ putB M x s) rfl (Hg2.out.row.alloc _) _ wr.heap.size 0 1 (Sl.one .u8 wr _ 5 W1.out) rfl (by omega) (by omega) (by simp; omega) ?_; intro g1 c1 w5 hm hg hf; rw [List.append_assoc, ← S1.out] at hm; have T5 : Hid (Grew .u8 5 B wr w5 (.slice o2 (N + s) p2) (.slice (some ⟨g1, 0, none⟩) (N + s + 1) c1) (N + s + 1) (zs ++ ys ++ putB M x (s + 1))) := Lib.hid (Grew.mk hm (grown_then (World.grownBy_alloc wr _ _) hg (fun _ h => .inl h)) (fun g h => by cases h; rcases hf with h1 | h1; exact .inl h1; exact .inr (by rw [h1]; simp))); clear hm hg hf)
            | fail)
          go_roundw
          case rel => exact ⟨s + 1, some ⟨g1, 0, none⟩, c1, by omega, by go_num, rfl, (fun h => by cases h), Hg2.out.trans T5.out⟩
          case measure => simp [intOf] <;> omega
        · obtain rfl : M = s := by omega
          go_wp2
          go_roundw
          case rel => exact ⟨t + 1, N + M, o2, p2, by omega, HN3, by go_num, rfl, Ho2.out, by rw [HS2.out, ← List.append_assoc]; exact Hg2.out⟩
          case measure => simp [intOf] <;> omega
    · obtain rfl : t = nn := by omega
      obtain rfl := HNt.out
      go_wp2
      go_ret
      refine ⟨o, p, rfl, ?_, Ho.out⟩
      have := Hg.out
      rw [HT.out] at this
      exact this

theorem i64_or_byte (x y : Int) (x0 : 0 ≤ x) (x1 : x ≤ 281474976710656) (y0 : 0 ≤ y) (y1 : y ≤ 255) : bits .or .i64 (x * 256) y = 256 * x + y := by
  obtain ⟨a, rfl⟩ := Int.eq_ofNat_of_zero_le x0
  obtain ⟨b, rfl⟩ := Int.eq_ofNat_of_zero_le y0
  rw [show (a : Int) * 256 = ((2 ^ 8 * a : Nat) : Int) by omega, i64_or_nat _ _ (by omega) (by omega), ← Nat.two_pow_add_eq_or_of_lt (i := 8) (by omega)]
  omega

set_option maxHeartbeats 1600000 in
theorem number_any (a : Option Addr) (n cap p m : Nat) (pi qi : Int) (zs : List Int) (w : World) (hs : Sl .u8 w a n zs) (hp : pi = p) (hq : qi = p + m) (hm : m ≤ 6) (hm1 : 1 ≤ m) (hn : p + m ≤ n) (hc : n ≤ cap) :
    Calls Try.prog 50 #[.slice a n cap, .int .i64 pi, .int .i64 qi] w fun e w' => e = .returned (.int .i64 (getB zs p m)) ∧ w = w' := by
  have hr := hs.reach
  obtain ⟨g, off, rfl⟩ := hs.head (by omega)
  have HR := Lib.hid (fun t ht => getB_range hs.u8 p t ht)
  have HP := Lib.hid pow256_le
  have Hs := Lib.hid hs
  have HS : Hid (∀ t, getB zs p (t + 1) = 256 * getB zs p t + zs.getD (p + t) 0) := Lib.hid fun _ => rfl
  have hp0 : 0 ≤ pi := by omega
  have hpq : pi ≤ qi := by omega
  have hqc : qi ≤ (cap : Int) := by omega
  have hpc : pi < (cap : Int) := by omega
  have hpt : pi.toNat = p := by omega
  have hlen : qi - pi = (m : Int) := by omega
  have hlen2 : (qi - pi).toNat = m := by omega
  clear hs
  go_enter Try.func50, Try.ntmps50
  go_wp2
  rw [Nat.add_sub_cancel_left]
  clear hp hq hp0 hpq hqc hpc hpt hlen hlen2
  go_loopw [7, 15] (fun v i wr => ∃ t : Nat, t ≤ m ∧ v = .int .i64 (getB zs p t) ∧ i = .int .i64 (t : Int) ∧ w = wr) (fun _ i _ => m - (intOf i).toNat)
  case atStart => exact ⟨0, by omega, rfl, by simp, rfl⟩
  case round =>
    obtain ⟨t, ht, rfl, rfl, rfl⟩ := hrel
    by_cases hlt : t < m
    · have c0 := Hs.out.at (i := p + t) (by omega)
      rw [← Nat.add_assoc] at c0
      have z0 := Hs.out.u8 (p + t)
      have b0 := HR.out t (by omega)
      have b1 := HP.out t (by omega)
      have E := Lib.hid (HS.out t)
      generalize zs.getD (p + t) 0 = x at c0 z0 E
      generalize getB zs p t = y at b0 E
      have hy : y ≤ 281474976710656 := by omega
      have hy0 := b0.1
      have O := Lib.hid (i64_or_byte y x hy0 hy z0.1 z0.2)
      have hI : (t : Int) < (m : Int) := by omega
      clear b0 b1
      go_wp2
      go_roundw
      case rel => exact ⟨t + 1, by omega, by rw [E.out, ← O.out], by go_num, trivial⟩
      case measure => simp [intOf] <;> omega
    · obtain rfl : m = t := by omega
      go_wp2
      go_ret
      exact ⟨rfl, rfl⟩

theorem kind_any (a : Option Addr) (n cap : Nat) (zs : List Int) (w : World) (hs : Sl .u8 w a n zs) :
    Calls Try.prog 49 #[.slice a n cap] w fun e w' => e = .returned (.int .i64 (if rtpB zs = true then 2 else 1)) ∧ w = w' := by
  have hr := hs.reach
  have hl := hs.len
  have hR : rtpB zs = (decide (40 ≤ n) && (zs.getD 28 0 == 128)) := by unfold rtpB; rw [hl]
  rw [hR]
  by_cases h40 : 40 ≤ n
  · obtain ⟨g, off, rfl⟩ := hs.head (by omega)
    have c0 := hs.at (i := 28) (by omega)
    have h28 : 28 < n := by omega
    have h40i : (40 : Int) ≤ (n : Int) := by omega
    rw [decide_eq_true h40]
    generalize zs.getD 28 0 = x at c0 ⊢
    clear hs hl hR
    cases e : (x == 128) with
    | true =>
      go_enter Try.func49, Try.ntmps49
      go_wp2
      go_ret
      exact ⟨rfl, rfl⟩
    | false =>
      go_enter Try.func49, Try.ntmps49
      go_wp2
      go_ret
      exact ⟨rfl, rfl⟩
  · rw [decide_eq_false h40]
    have h40i : ¬ (40 : Int) ≤ (n : Int) := by omega
    clear hs hl hR
    go_enter Try.func49, Try.ntmps49
    go_wp2
    go_ret
    exact ⟨rfl, rfl⟩

theorem headSize_any (k : Int) (w : World) :
    Calls Try.prog 44 #[.int .i64 k] w fun e w' => e = .returned (.int .i64 (if k = 2 then 40 else 28)) ∧ w = w' := by
  by_cases h : k = 2
  · rw [if_pos h]
    have K : (k == 2) = true := by simpa using h
    clear h
    go_enter Try.func44, Try.ntmps44
    go_wp2
    go_ret
    exact ⟨rfl, rfl⟩
  · rw [if_neg h]
    have K : (k == 2) = false := by simpa using h
    clear h
    go_enter Try.func44, Try.ntmps44
    go_wp2
    go_ret
    exact ⟨rfl, rfl⟩

theorem equal_any (a b : Option Addr) (n cap m cap' : Nat) (xs ys : List Int) (w : World) (hx : Sl .u8 w a n xs) (hy : Sl .u8 w b m ys) :
    Calls Try.prog 45 #[.slice a n cap, .slice b m cap'] w fun e w' => e = .returned (.bool (decide (xs = ys))) ∧ w = w' := by
  have c1 := run_string_of (P := Try.prog) hx cap 24 5 9 Try.underlying24 Try.underlying5 Try.underlying9
  have c2 := run_string_of (P := Try.prog) hy cap' 24 5 9 Try.underlying24 Try.underlying5 Try.underlying9
  go_enter Try.func45, Try.ntmps45
  go_wp2
  go_ret
  refine ⟨ret_bool ?_, rfl⟩
  rw [ByteArray.toList_eq, ByteArray.toList_eq, Bool.eq_iff_iff]
  simp only [beq_iff_eq, decide_eq_true_eq]
  exact ⟨fun h => bytes_back hx.all255 hy.all255 h, fun h => by rw [h]⟩

set_option maxHeartbeats 800000 in
theorem clone_any (a : Option Addr) (n cap : Nat) (zs : List Int) (w : World) (hs : Sl .u8 w a n zs) (ha : a = none → cap = 0) (hr : n ≤ 140737488351232) :
    Calls Try.prog 35 #[.slice a n cap] w fun e w' => ∃ o cp, e = .returned (.slice o n cp) ∧ Mk .u8 5 w.heap.size w' (.slice o n cp) n zs ∧ (o = none → cp = 0) ∧ Below w.heap.size w w' := by
  cases a with
  | none =>
    have hn : n = 0 := by
      rcases Nat.eq_zero_or_pos n with h0 | h0
      · exact h0
      · obtain ⟨b, off, e⟩ := hs.head h0; cases e
    subst hn
    obtain rfl : zs = [] := List.eq_nil_of_length_eq_zero hs.len
    obtain rfl := ha rfl
    clear hs ha
    have hnil := fun W => Lib.run_eql_slice_nil (P := Try.prog) W 24 5 none 0 0 0 0 Try.underlying24
    go_enter Try.func35, Try.ntmps35
    go_wp2
    go_ret
    exact ⟨none, 0, rfl, Mk.nil _ _ _ _, fun _ => rfl, Below.refl _ _⟩
  | some x =>
    have Hs := Lib.hid hs
    clear hs ha
    have hnil := fun W => Lib.run_eql_slice_nil (P := Try.prog) W 24 5 (some x) n cap 0 0 Try.underlying24
    go_enter Try.func35, Try.ntmps35
    go_wp2_with (first
      | (at_builtin; refine wpList_append_at rfl (.tmp 5) (.tmp 6) 24 rfl .u8 5 w.heap.size 1 Try.underlying24 info_u8 _ 0 [] rfl (Mk.lit .u8 5 _ w [] 0 (Nat.le_refl _) rfl (by omega) (by simp)) (some x) n cap zs rfl (Hs.out.alloc _) (fun h => by cases h) (by omega) (by omega) (by simp) ?_; intro o4 c4 w4 hm hg hf hn; have M4 := Lib.hid hm; have B4 := Lib.hid (((Below.refl w.heap.size w).alloc (Nat.le_refl _) _).trans (Below.of_row hg (fun g h => by cases h; exact Nat.le_refl _) (by simp))); have N4 := Lib.hid hn; clear hm hg hf hn)
      | fail)
    go_ret
    have M5 := M4.out
    rw [List.nil_append] at M5
    simp only [Nat.zero_add] at M5 N4 ⊢
    exact ⟨o4, c4, rfl, M5, fun h => (N4.out h).2, B4.out⟩

set_option maxHeartbeats 400000 in
theorem putWord_any (B g n cap at' : Nat) (i v : Int) (zs : List Int) (w : World) (hm : Mk .u8 5 B w (.slice (some ⟨g, 0, none⟩) n cap) n zs) (hi : i = at') (ha : at' + 1 < n) (v0 : 0 ≤ v) (v1 : v ≤ 65535) :
    Calls Try.prog 32 #[.slice (some ⟨g, 0, none⟩) n cap, .int .i64 i, .int .i64 v] w fun e w' => e = .returned (.tuple #[]) ∧ Mk .u8 5 B w' (.slice (some ⟨g, 0, none⟩) n cap) n (setW zs at' v) ∧ w.grownBy w' (some g) := by
  subst hi
  have hr := hm.reach
  have d0 := hm.at (j := at') (by omega)
  have d1 := hm.at (j := at' + 1) (by omega)
  have f0 := hm.free at'
  have f1 := hm.free (at' + 1)
  have M2 := Lib.hid ((hm.stored at' (v / 256) (byte_wf (by omega) (by omega))).stored (at' + 1) (v % 256) (byte_wf (by omega) (by omega)))
  generalize zs.getD at' 0 = z0 at d0
  generalize zs.getD (at' + 1) 0 = z1 at d1
  have G := Lib.hid (grown_then (row := some g) (setCell_but w g at' (.int .u8 (v / 256))) (setCell_but _ g (at' + 1) (.int .u8 (v % 256))) (fun _ h => .inl h))
  have hI1 : (at' : Int) < (n : Int) := by omega
  have hI2 : (at' : Int) + 1 < (n : Int) := by omega
  clear hm
  go_enter Try.func32, Try.ntmps32
  go_wp2
  go_end0
  exact ⟨rfl, M2.out, G.out⟩
end Go.Proofs.Ytfeeifemfhhijaa
