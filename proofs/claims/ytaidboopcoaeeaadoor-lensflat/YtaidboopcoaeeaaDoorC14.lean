/-
  Contract: size.Best. Conditions: the slice reads as integers, and they are few.
  Plain facts: the lengths are complete, each is at least 1, and what they cost. Conditions: as each says.
  Plain facts: what the lengths that size.Best answers are, place by place. Conditions: as each says.
  Plain facts: what the lengths that size.Best answers are to code.Check and ref.Check. Conditions: as each says.
  Contract: the iterator of size.pairs. Conditions: the slice reads as items, and they are few.
-/
import Derived.Test.YtaidboopcoaeeaaDoorC12
import Derived.Test.YtaidboopcoaeeaaDoorC13
import Derived.Test.YtaidboopcoaeeaaDoorC01
import Derived.RangeFuncNested
import Derived.RangeFuncBound
import Derived.RangeFuncCalls
import Derived.RangeFuncLeaves
import Derived.RangeFuncFrom
import Derived.Shelf.Abstract
import Derived.Shelf.RegionOpen
import Derived.WalkKit
import Derived.OwnWalkIn
import Derived.TacticsInMore
import Derived.LoopNIn
import Derived.LoopIn
import Derived.Test.YtaidboopcoaeeaaDoorC11
namespace Go.Proofs.YtaidboopcoaeeaaDoor.ZBst
open Go.ChangeShapes Go.WideShapes Go.ChangeAt Go.RowKit Go.Proofs.YtaidboopcoaeeaaDoor.Core Go.Proofs.YtaidboopcoaeeaaDoor.Gnd Go.Proofs.YtaidboopcoaeeaaDoor.ZSrt Go.Proofs.YtaidboopcoaeeaaDoor.ZRis Go.Proofs.YtaidboopcoaeeaaDoor.ZRis2 Go.Proofs.YtaidboopcoaeeaaDoor.ZItm Go.Proofs.YtaidboopcoaeeaaDoor.ZMrg Go.Proofs.YtaidboopcoaeeaaDoor.ZPur Go.Proofs.YtaidboopcoaeeaaDoor.ZSpr
open Go.Proofs.YtaidboopcoaeeaaDoor.ZShr (sRow sRow_at sRow_size sRow_set sRow_congr make_ints)
open Go.Proofs.YtaidboopcoaeeaaDoor.ZSha

def ParOk : Prop := ∀ (v : Value) (xs : List It) (w : World), Its w v xs → xs.length ≤ 20000 → (∀ x ∈ xs, 0 < x.1 ∧ x.1 ≤ 4000000000000000000) → Calls Tryd.prog 81 #[v] w fun e w' => ∃ r, e = .returned r ∧ Its w' r (prs xs) ∧ Below w.heap.size w w'
theorem prs_max {B : Int} : ∀ (xs : List It), (∀ x ∈ xs, x.1 ≤ B) → ∀ y ∈ prs xs, y.1 ≤ 2 * B
  | [], _ => fun y h => by simp [prs] at h
  | [_], _ => fun y h => by simp [prs] at h
  | a :: b :: t, hp => fun y h => by
    simp only [prs, List.mem_cons] at h
    rcases h with rfl | h
    · have h1 := hp a (by simp)
      have h2 := hp b (by simp)
      show a.1 + b.1 ≤ _
      omega
    · exact prs_max t (fun x hx => hp x (by simp [hx])) y h
theorem row_max {S : List It} (hB : ∀ x ∈ S, x.1 ≤ 4294967296) : ∀ i, ∀ x ∈ rowI S i, x.1 ≤ 4294967296 * 2 ^ i
  | 0 => fun x hx => by have := hB x hx; omega
  | i + 1 => fun x hx => by
    have hp : (0 : Int) < 2 ^ i := Int.pow_pos (by omega)
    rcases row_mem.1 hx with h1 | h1
    · have := hB x h1
      rw [Int.pow_succ]
      omega
    · have := prs_max _ (row_max hB i) x h1
      rw [Int.pow_succ]
      omega
theorem row_max15 {S : List It} (hB : ∀ x ∈ S, x.1 ≤ 4294967296) (i : Nat) (hi : i < 15) : ∀ x, x ∈ rowI S i → x.1 ≤ 4000000000000000000 := fun x hx => by
  have h1 := row_max hB i x hx
  have h2 : (2 : Int) ^ i ≤ 2 ^ 15 := by
    have : 2 ^ i ≤ 2 ^ 15 := Nat.pow_le_pow_right (by omega) (by omega)
    have e : ((2 ^ i : Nat) : Int) = (2 : Int) ^ i := by simp
    rw [← e]
    omega
  omega
/-- What the lengths are. -/
structure Lns (c : Nat → Int) (len m : Nat) (s : Nat → Nat) (M : Nat → Nat) : Prop where
  re : Re 0 (pos c len).length (fun i => (pos c len).getD i 0) s
  up : Up c s 0 (pos c len).length
  one : (pos c len).length = 1 → M (s 0) = 1
  more : (pos c len).length ≠ 1 → ∀ p, p < (pos c len).length → M (s p) = sumN (fun r => if p < sprd (wts c (fun i => (s i : Int)) (pos c len).length) (m - 1) (2 * (pos c len).length - 2) r then 1 else 0) m
  none : ∀ x, x < len → (∀ p, p < (pos c len).length → s p ≠ x) → M x = 0
theorem pos_nodup (c : Nat → Int) : ∀ n i j, i < j → j < (pos c n).length → (pos c n).getD i 0 < (pos c n).getD j 0
  | 0, i, j, _, h => by simp [pos] at h
  | n + 1, i, j, hij, h => by
    unfold pos at h ⊢
    split at h
    · next hc =>
      rw [if_pos hc]
      have ih := pos_nodup c n
      rw [List.length_append] at h
      simp only [List.length_cons, List.length_nil] at h
      by_cases e : j < (pos c n).length
      · rw [List.getD_eq_getElem?_getD, List.getD_eq_getElem?_getD, List.getElem?_append_left (by omega), List.getElem?_append_left e]
        have := ih i j hij e
        rwa [List.getD_eq_getElem?_getD, List.getD_eq_getElem?_getD] at this
      · have ej : j = (pos c n).length := by omega
        have h1 : (pos c n).getD i 0 < n := pos_lt (c := c) (len := n) i (by omega)
        rw [List.getD_eq_getElem?_getD] at h1
        rw [List.getD_eq_getElem?_getD, List.getD_eq_getElem?_getD, List.getElem?_append_left (by omega), ej, List.getElem?_append_right (Nat.le_refl _)]
        simpa using h1
    · next hc =>
      rw [if_neg hc]
      exact pos_nodup c n i j hij h
theorem pos_inj {c : Nat → Int} {n i j : Nat} (hi : i < (pos c n).length) (hj : j < (pos c n).length) (h : (pos c n).getD i 0 = (pos c n).getD j 0) : i = j := by
  rcases Nat.lt_trichotomy i j with e | e | e
  · have := pos_nodup c n i j e hj; omega
  · exact e
  · have := pos_nodup c n j i e hi; omega
theorem re_inj {c : Nat → Int} {n : Nat} {s : Nat → Nat} (h : Re 0 (pos c n).length (fun i => (pos c n).getD i 0) s) {i j : Nat} (hi : i < (pos c n).length) (hj : j < (pos c n).length) (e : s i = s j) : i = j := by
  obtain ⟨p, q, h1, _, h3, h4⟩ := h
  rw [h4, h4] at e
  have a1 := h3 i (Nat.zero_le _) hi
  have a2 := h3 j (Nat.zero_le _) hj
  have := pos_inj a1.2.1 a2.2.1 e
  have h5 := (h1 i).2
  rw [this, (h1 j).2] at h5
  exact h5.symm
theorem re_pos {c : Nat → Int} {n : Nat} {s : Nat → Nat} (h : Re 0 (pos c n).length (fun i => (pos c n).getD i 0) s) {i : Nat} (hi : i < (pos c n).length) : s i < n ∧ 0 < c (s i) := by
  obtain ⟨j, _, h2, h3⟩ := h.into i (Nat.zero_le _) hi
  have h1 : (pos c n)[j] ∈ pos c n := List.getElem_mem h2
  have h4 := (pos_mem c _ n).1 h1
  have e : s i = (pos c n)[j] := by
    rw [h3, List.getD_eq_getElem?_getD, List.getElem?_eq_getElem h2]
    rfl
  rw [e]
  exact h4
theorem sym_of {c : Nat → Int} {n : Nat} {s : Nat → Nat} (h : Re 0 (pos c n).length (fun i => (pos c n).getD i 0) s) (up : Up c s 0 (pos c n).length) : Sym (wts c (fun i => (s i : Int)) (pos c n).length) := by
  refine ⟨fun i j hij hj => ?_, fun x hx => ?_, fun x hx => ?_⟩
  · rw [wts_len] at hj
    rw [wts_at _ _ _ _ (by omega), wts_at _ _ _ _ hj]
    exact up i j (Nat.zero_le _) hij hj
  · simp only [wts, List.mem_map, List.mem_range] at hx
    obtain ⟨i, hi, rfl⟩ := hx
    exact (re_pos h hi).2
  · simp only [wts, List.mem_map, List.mem_range] at hx
    obtain ⟨i, hi, rfl⟩ := hx
    rfl
/-- Lengths in a block. -/
structure Len (w2 wr : World) (len : Nat) (M : Nat → Nat) : Prop where
  box : Box wr w2.heap.size 3 (sRow (fun r => .int .i64 (M r)) len)
  bel : Below w2.heap.size w2 wr
theorem Len.put {w2 wr : World} {len : Nat} {M : Nat → Nat} (h : Len w2 wr len M) (k z : Nat) : Len w2 (wr.setCell ⟨w2.heap.size, k, none⟩ (.int .i64 z)) len (fun r => if r = k then z else M r) := by
  refine ⟨?_, h.bel.setCell (p := ⟨w2.heap.size, k, none⟩) (Nat.le_refl _) _⟩
  have := h.box.set k (.int .i64 z)
  rw [sRow_set, sRow_congr (g := fun r => .int .i64 (((if r = k then z else M r : Nat)) : Int)) (fun r _ => by by_cases e : r = k <;> simp [e])] at this
  exact this
theorem Len.ints {w2 wr : World} {len : Nat} {M : Nat → Nat} (h : Len w2 wr len M) (cap : Nat) : Ints .i64 wr (.slice (some ⟨w2.heap.size, 0, none⟩) len cap) len (fun i => (M i : Int)) :=
  ⟨_, cap, rfl, fun i hi => ⟨w2.heap.size, 0, rfl, by rw [Nat.zero_add, h.box.cell, sRow_at _ _ _ hi]⟩⟩
/-- The lengths behind r rows, and k symbols of the next. -/
structure Cnt (c : Nat → Int) (len : Nat) (s t M : Nat → Nat) (r k : Nat) : Prop where
  at_ : ∀ p, p < (pos c len).length → M (s p) = sumN (fun x => if p < t x then 1 else 0) r + (if p < k then 1 else 0)
  none : ∀ x, x < len → (∀ p, p < (pos c len).length → s p ≠ x) → M x = 0
theorem sum_le (g : Nat → Nat) (h : ∀ x, g x ≤ 1) : ∀ n, sumN g n ≤ n
  | 0 => Nat.le_refl _
  | n + 1 => by
    have := sum_le g h n
    have := h n
    show sumN g n + g n ≤ _
    omega
theorem Cnt.small {c : Nat → Int} {len : Nat} {s t M : Nat → Nat} {r k : Nat} (h : Cnt c len s t M r k) (p : Nat) (hp : p < (pos c len).length) : M (s p) ≤ r + 1 := by
  rw [h.at_ p hp]
  have := sum_le (fun x => if p < t x then 1 else 0) (fun x => by by_cases e : p < t x <;> simp [e]) r
  by_cases e : p < k
  · rw [if_pos e]; omega
  · rw [if_neg e]; omega
theorem Cnt.step {c : Nat → Int} {len : Nat} {s t M : Nat → Nat} {r k : Nat} (h : Cnt c len s t M r k) (re : Re 0 (pos c len).length (fun i => (pos c len).getD i 0) s) (hk : k < (pos c len).length) : Cnt c len s t (fun x => if x = s k then M (s k) + 1 else M x) r (k + 1) := by
  refine ⟨fun p hp => ?_, fun x hx hn => ?_⟩
  · by_cases e : p = k
    · subst e
      show (if s p = s p then _ else _) = _
      rw [if_pos rfl, h.at_ p hp, if_neg (by omega), if_pos (by omega)]
    · show (if s p = s k then _ else _) = _
      rw [if_neg (fun e2 => e (re_inj re hp hk e2)), h.at_ p hp]
      by_cases e2 : p < k
      · rw [if_pos e2, if_pos (by omega)]
      · rw [if_neg e2, if_neg (by omega)]
  · show (if x = s k then _ else _) = _
    rw [if_neg (fun e => hn k hk e.symm)]
    exact h.none x hx hn
theorem Cnt.next {c : Nat → Int} {len : Nat} {s t M : Nat → Nat} {r : Nat} (h : Cnt c len s t M r (t r)) : Cnt c len s t M (r + 1) 0 := by
  refine ⟨fun p hp => ?_, h.none⟩
  rw [h.at_ p hp, if_neg (Nat.not_lt_zero p)]
  rfl
/-- What size.Best answers. -/
structure Gives (c : Nat → Int) (len m : Nat) (w : World) (e : Ending) (w' : World) : Prop where
  ex : ∃ u s M, e = .returned (.tuple #[u, .int .i64 0]) ∧ (∃ b, u = .slice (some ⟨b, 0, none⟩) len len ∧ w.heap.size ≤ b) ∧ Ints .i64 w' u len (fun i => ((M i : Nat) : Int)) ∧ Lns c len m s M ∧ Below w.heap.size w w'
set_option maxRecDepth 20000 in
set_option maxHeartbeats 4000000 in
theorem bst_ok (hpar : ParOk) (v : Value) (len m : Nat) (c : Nat → Int) (w : World) (src : Ints .i64 w v len c) (hl : len ≤ 4096) (ok : Okc c len) (hm : 1 ≤ m) (hm2 : m ≤ 15) (hn : (pos c len).length ≤ 2 ^ m) :
    Calls Tryd.prog 56 #[v, .int .i64 m] w fun e w' => Gives c len m w e w' := by
  have SRC := hide src
  have OK := hide ok
  have PAR := hide hpar
  have CG := hide (good13 v len c hl w src)
  have CR := hide (ris14 v len c hl w src ok)
  have okb := (okB_iff c len).2 ok
  rw [okb] at CG
  obtain ⟨a, cap, rfl, _⟩ := src
  have hm' : ¬ (m : Int) < 1 := by omega
  have hm2' : ¬ (15 : Int) < (m : Int) := by omega
  obtain ⟨xs, hxs⟩ : ∃ xs, xs = sRow (fun _ => .int .i64 0) len := ⟨_, rfl⟩
  have hmk : ∀ w, (Instr.makeSlice 22 (.int .i64 len) (.int .i64 len)).run Tryd.prog w = .ok (.slice (some ⟨w.heap.size, 0, none⟩) len len) (w.alloc (.cells xs 3)) := fun w => by
    rw [hxs]
    exact make_ints w len (by omega)
  have HX := hide hxs
  have pl := pos_len c len
  obtain ⟨P, hP⟩ : ∃ P : Nat, wrap64 ((2 : Int) ^ m) = (P : Int) ∧ P = 2 ^ m := ⟨2 ^ m, by
    have h1 : 2 ^ m ≤ 2 ^ 15 := Nat.pow_le_pow_right (by omega) hm2
    have e : ((2 ^ m : Nat) : Int) = (2 : Int) ^ m := by simp
    rw [← e]
    generalize 2 ^ m = z at *
    simp [wrap64]
    omega, rfl⟩
  obtain ⟨hP, hP2⟩ := hP
  have hnP : ¬ (P : Int) < (((pos c len).length : Nat) : Int) := by omega
  have HN := hide hn
  clear ok okb hpar hxs hP2 hn
  go_enter Tryd.func56, Tryd.ntmps56
  go_wp2_with fail
  refine (unhide CG).mono ?_
  rintro e w0 ⟨rfl, rfl⟩
  go_wp2_with fail
  refine (unhide CR).mono ?_
  rintro e w1 ⟨u, s, rfl, rose⟩
  have RO := hide rose
  obtain ⟨ua, ucap, rfl, hroom⟩ := rose.room
  have LE0 := hide (show Len w1 (w1.alloc (.cells xs 3)) len (fun _ => 0) from ⟨by rw [unhide HX]; exact Box.made w1 3 _, (Below.refl _ w1).alloc (Nat.le_refl _) _⟩)
  by_cases h1 : (pos c len).length = 1
  · obtain ⟨ia, icap, e, hi⟩ := rose.ints
    cases e
    obtain ⟨b, off, rfl, hc⟩ := hi 0 (by omega)
    have hsl := (re_pos rose.re (i := 0) (by omega)).1
    have x0 : xs[s 0]? = some (.int .i64 0) := by rw [unhide HX, sRow_at _ _ _ hsl]
    have hbl := lt_of_cell hc
    have hs' : ((s 0 : Nat) : Int) < (len : Int) := by omega
    have LN := hide (show Lns c len m s (fun x => if x = s 0 then 1 else 0) from ⟨rose.re, rose.up, fun _ => if_pos rfl, fun h => absurd h1 h, fun x hx hn => if_neg (fun e => hn 0 (by omega) e.symm)⟩)
    have BEL := hide rose.bel
    have BX := hide (show Len w1 (w1.alloc (.cells (xs.setIfInBounds (s 0) (.int .i64 1)) 3)) len (fun x => if x = s 0 then 1 else 0) from by
      refine ⟨?_, (Below.refl _ w1).alloc (Nat.le_refl _) _⟩
      rw [unhide HX, sRow_set, sRow_congr (g := fun r => .int .i64 (((if r = s 0 then 1 else 0 : Nat)) : Int)) (fun r _ => by by_cases e : r = s 0 <;> simp [e])]
      exact Box.made w1 3 _)
    have H1 := hide h1
    have hc' : w1.cell? ⟨b, off, none⟩ = some (.int .i64 ((s 0 : Nat) : Int)) := by simpa using hc
    clear rose CR CG hi hc
    generalize s 0 = s0 at *
    go_wp2
    go_ret2
    exact ⟨_, s, _, rfl, ⟨_, rfl, (unhide BEL).size⟩, (unhide BX).ints _, unhide LN, (unhide BEL).trans ((unhide BX).bel.mono (unhide BEL).size)⟩
  · have h1' : ((((pos c len).length : Nat) : Int) == 1) = false := beq_eq_false_iff_ne.2 (by omega)
    have B1 := hide (show Below w1.heap.size w1 (w1.alloc (.cells xs 3)) from (Below.refl _ w1).alloc (Nat.le_refl _) _)
    have CW := hide (wei16 _ _ len (pos c len).length c (fun i => (s i : Int)) (w1.alloc (.cells xs 3)) (((unhide SRC).keep rose.bel).keep (unhide B1)) (rose.ints.keep (unhide B1)) (fun i hi => by have := (re_pos rose.re hi).1; omega) (by omega))
    clear rose CR CG
    go_wp2_with fail
    refine (unhide CW).mono ?_
    rintro e w2 ⟨r2, rfl, i2, b2⟩
    have SY := hide (sym_of (unhide RO).re (unhide RO).up)
    have CS := hide (shr15 (unhide PAR) r2 _ m w2 i2 (unhide SY) (by rw [wts_len]; omega) hm hm2 (by rw [wts_len]; exact unhide HN) (by rw [wts_len]; exact h1) (row_max15 (fun x hx => by
      simp only [wts, List.mem_map, List.mem_range] at hx
      obtain ⟨i, hi, rfl⟩ := hx
      exact (unhide OK _ (by simpa using (re_pos (unhide RO).re hi).1)).2)))
    rw [wts_len] at CS
    have B2 := hide b2
    clear i2 b2 CW
    go_wp2_with fail
    refine (unhide CS).mono ?_
    rintro e w3 ⟨g, rfl, hg1, hg2, i3, b3⟩
    have B3 := hide (show Below (w1.alloc (.cells xs 3)).heap.size (w1.alloc (.cells xs 3)) w3 from (unhide B2).trans (b3.mono (unhide B2).size))
    have LE3 := hide (show Len w1 w3 len (fun _ => 0) from ⟨(unhide LE0).box.below (unhide B3) (unhide LE0).box.lt, (unhide LE0).bel.trans ((unhide B3).mono (unhide LE0).bel.size)⟩)
    have hgl : w1.heap.size < g := by
      have h5 := (unhide B2).size
      rw [World.size_alloc] at h5
      omega
    have I3 := hide i3
    have SPL := hide (show ∀ r, r < m → sprd (wts c (fun i => (s i : Int)) (pos c len).length) (m - 1) (2 * (pos c len).length - 2) r ≤ (pos c len).length from fun r hr => by
      have := spr_le (unhide SY) (m - 1) (2 * (pos c len).length - 2) r (by
        have := row_enough (wts c (fun i => (s i : Int)) (pos c len).length) (m - 1) (by rw [wts_len, show m - 1 + 1 = m by omega]; exact unhide HN)
        rwa [wts_len] at this) (by omega)
      rwa [wts_len] at this)
    generalize ht : (fun r => sprd (wts c (fun i => (s i : Int)) (pos c len).length) (m - 1) (2 * (pos c len).length - 2) r) = t at *
    have HT := hide ht
    have I4 := hide (show ∀ k, k < m → w3.cell? ⟨g, k, none⟩ = some (.int .i64 ((t k : Nat) : Int)) from fun k hk => by rw [← ht]; exact unhide I3 k hk)
    have SP4 := hide (show ∀ r, r < m → t r ≤ (pos c len).length from fun r hr => by rw [← ht]; exact unhide SPL r hr)
    clear i3 b3 CS hg1 I3 SPL ht B1 B2 LE0
    go_wp2
    go_loopw [48] (fun x wr => ∃ (r : Nat) (M : Nat → Nat), r ≤ m ∧ x = .int .i64 r ∧ Len w1 wr len M ∧ Cnt c len s t M r 0 ∧ Upd (fun k => k = w1.heap.size) w3 wr) (fun x _ => m - (intOf x).toNat)
    case atStart =>
      exact ⟨0, fun _ => 0, Nat.zero_le _, rfl, unhide LE3, ⟨fun p _ => by simp [sumN], fun _ _ _ => rfl⟩, Upd.refl _ w3⟩
    case round =>
      obtain ⟨r, M, hr, rfl, ln, cn, u⟩ := hrel
      have LN := hide ln
      have CN := hide cn
      have UU := hide u
      by_cases hlt : r < m
      · have hlt' : (r : Int) < (m : Int) := by omega
        have ct := (u.cell (p := ⟨g, r, none⟩) hg2 (fun e => by simp at e; omega)).trans (unhide I4 r hlt)
        have htr := unhide SP4 r hlt
        have htc : ((t r : Nat) : Int) ≤ (ucap : Int) := by omega
        clear ln cn u
        go_wp2
        go_loopw [56] (fun x wi => ∃ (k : Nat) (M : Nat → Nat), k ≤ t r ∧ x = .int .i64 k ∧ Len w1 wi len M ∧ Cnt c len s t M r k ∧ Upd (fun k => k = w1.heap.size) w3 wi) (fun x _ => t r - (intOf x).toNat)
        case atStart => exact ⟨0, M, Nat.zero_le _, rfl, unhide LN, unhide CN, unhide UU⟩
        case round =>
          clear LN CN UU ct
          obtain ⟨k, M, hk, rfl, ln, cn, u⟩ := hrel
          have LN := hide ln
          have CN := hide cn
          have UU := hide u
          by_cases hlk : k < t r
          · have hlk' : (k : Int) < ((t r : Nat) : Int) := by omega
            obtain ⟨ia, icap, e, hi⟩ := (unhide RO).ints
            cases e
            obtain ⟨b, off, rfl, hc⟩ := hi k (by omega)
            have hc' : wr.cell? ⟨b, off + k, none⟩ = some (.int .i64 ((s k : Nat) : Int)) := (ln.bel.cell (p := ⟨b, off + k, none⟩) (lt_of_cell hc)).trans hc
            have hsl := (re_pos (unhide RO).re (i := k) (by omega)).1
            have hs' : ((s k : Nat) : Int) < (len : Int) := by omega
            have cs := (ln.box.cell (s k)).trans (sRow_at _ _ _ hsl)
            have fs := ln.box.free (s k)
            have hsm := cn.small k (by omega)
            have PUT := hide (ln.put (s k) (M (s k) + 1))
            have STP := hide (cn.step (unhide RO).re (by omega))
            clear ln cn u hi hc
            generalize s k = sk at *
            generalize M sk = z at *
            go_wp2
            go_roundw
            case rel =>
              refine ⟨k + 1, _, by omega, by go_num, ?_, unhide STP, (unhide UU).setCell (p := ⟨w1.heap.size, sk, none⟩) rfl _⟩
              have := unhide PUT
              rw [show ((z + 1 : Nat) : Int) = (z : Int) + 1 by omega] at this
              exact this
            case measure => simp [intOf]; omega
          · obtain rfl : k = t r := by omega
            have hnl : ¬ ((t r : Nat) : Int) < ((t r : Nat) : Int) := by omega
            clear ln cn u hlk
            go_wp2
            go_roundw
            case rel => exact ⟨r + 1, M, by omega, by go_num, unhide LN, (unhide CN).next, unhide UU⟩
            case measure => simp [intOf]; omega
      · obtain rfl : r = m := by omega
        have hnl : ¬ (r : Int) < (r : Int) := by omega
        have LNS := hide (show Lns c len r s M from ⟨(unhide RO).re, (unhide RO).up, fun h => absurd h h1, fun _ p hp => by
          rw [cn.at_ p hp, if_neg (Nat.not_lt_zero p), Nat.add_zero, ← unhide HT], cn.none⟩)
        have BEL := hide ((unhide RO).bel.trans (ln.bel.mono (unhide RO).bel.size))
        clear ln cn u hlt
        go_wp2
        go_ret2
        exact ⟨_, s, M, rfl, ⟨_, rfl, (unhide RO).bel.size⟩, (unhide LN).ints _, unhide LNS, unhide BEL⟩
end Go.Proofs.YtaidboopcoaeeaaDoor.ZBst

namespace Go.Proofs.YtaidboopcoaeeaaDoor.ZFin
open Go.Proofs.YtaidboopcoaeeaaDoor.ZSrt Go.Proofs.YtaidboopcoaeeaaDoor.ZRis Go.Proofs.YtaidboopcoaeeaaDoor.ZRis2 Go.Proofs.YtaidboopcoaeeaaDoor.ZItm Go.Proofs.YtaidboopcoaeeaaDoor.ZMrg Go.Proofs.YtaidboopcoaeeaaDoor.ZPur Go.Proofs.YtaidboopcoaeeaaDoor.ZSpr Go.Proofs.YtaidboopcoaeeaaDoor.ZBst

theorem sumN_add (g h : Nat → Nat) : ∀ n, sumN (fun k => g k + h k) n = sumN g n + sumN h n
  | 0 => rfl
  | n + 1 => by
    have := sumN_add g h n
    simp only [sumN]
    omega
theorem sumZ_add (g h : Nat → Int) : ∀ n, sumZ (fun k => g k + h k) n = sumZ g n + sumZ h n
  | 0 => rfl
  | n + 1 => by
    have := sumZ_add g h n
    simp only [sumZ]
    omega
theorem sumN_zero : ∀ n, sumN (fun _ => 0) n = 0
  | 0 => rfl
  | n + 1 => by rw [sumN, sumN_zero n]
theorem sumZ_zero : ∀ n, sumZ (fun _ => 0) n = 0
  | 0 => rfl
  | n + 1 => by rw [sumZ, sumZ_zero n]; rfl
theorem sumN_swap (f : Nat → Nat → Nat) (m : Nat) : ∀ n, sumN (fun p => sumN (fun r => f p r) m) n = sumN (fun r => sumN (fun p => f p r) n) m
  | 0 => by simp only [sumN]; rw [sumN_zero]
  | n + 1 => by
    have := sumN_swap f m n
    simp only [sumN]
    rw [this, sumN_add]
theorem sumZ_swap (f : Nat → Nat → Int) (m : Nat) : ∀ n, sumZ (fun p => sumZ (fun r => f p r) m) n = sumZ (fun r => sumZ (fun p => f p r) n) m
  | 0 => by simp only [sumZ]; rw [sumZ_zero]
  | n + 1 => by
    have := sumZ_swap f m n
    simp only [sumZ]
    rw [this, sumZ_add]
theorem sumN_ind (t x : Nat) : ∀ n, t ≤ n → sumN (fun p => if p < t then x else 0) n = t * x
  | 0, h => by
    have : t = 0 := by omega
    subst this
    simp [sumN]
  | n + 1, h => by
    by_cases e : t ≤ n
    · rw [sumN, sumN_ind t x n e, if_neg (by omega), Nat.add_zero]
    · have e2 : t = n + 1 := by omega
      have h1 := sumN_ind n x n (Nat.le_refl _)
      have h2 : sumN (fun p => if p < t then x else 0) n = sumN (fun p => if p < n then x else 0) n := sumN_congr n (fun k hk => by rw [if_pos hk, if_pos (by omega)])
      rw [sumN, h2, h1, if_pos (by omega), e2, Nat.add_mul, Nat.one_mul]
theorem sumN_mul (g : Nat → Nat) (z : Nat) : ∀ n, sumN (fun k => g k * z) n = sumN g n * z
  | 0 => by simp [sumN]
  | n + 1 => by rw [sumN, sumN, sumN_mul g z n, Nat.add_mul]
theorem sumN_le {g h : Nat → Nat} : ∀ n, (∀ k, k < n → g k ≤ h k) → sumN g n ≤ sumN h n
  | 0, _ => Nat.le_refl _
  | n + 1, e => by
    have h1 := sumN_le n (fun k hk => e k (by omega))
    have h2 := e n (by omega)
    simp only [sumN]
    omega
theorem sumZ_le {g h : Nat → Int} : ∀ n, (∀ k, k < n → g k ≤ h k) → sumZ g n ≤ sumZ h n
  | 0, _ => Int.le_refl _
  | n + 1, e => by
    have h1 := sumZ_le n (fun k hk => e k (by omega))
    have h2 := e n (by omega)
    simp only [sumZ]
    omega
theorem sumZ_mul (g : Nat → Int) (z : Int) : ∀ n, sumZ (fun k => g k * z) n = sumZ g n * z
  | 0 => by simp [sumZ]
  | n + 1 => by rw [sumZ, sumZ, sumZ_mul g z n, Int.add_mul]
/-- A row of noughts, then of ones. -/
theorem wide_one (b : Nat → Prop) (hd : ∀ r, Decidable (b r)) : ∀ m, (∀ r, r + 1 < m → b r → b (r + 1)) → sumN (fun r => if b r then 2 ^ r else 0) m + 2 ^ (m - sumN (fun r => if b r then 1 else 0) m) = 2 ^ m ∧ sumN (fun r => if b r then 1 else 0) m ≤ m
  | 0, _ => by simp [sumN]
  | m + 1, h => by
    obtain ⟨ih, ihl⟩ := wide_one b hd m (fun r hr => h r (by omega))
    by_cases e : b m
    · simp only [sumN, if_pos e]
      generalize sumN (fun r => if b r then 1 else 0) m = q at *
      rw [show m + 1 - (q + 1) = m - q by omega, Nat.pow_succ]
      omega
    · have hall : ∀ j r, r + j = m → ¬ b r := by
        intro j
        induction j with
        | zero => intro r hr; rw [show r = m by omega]; exact e
        | succ j ihj =>
          intro r hr hb
          exact ihj (r + 1) (by omega) (h r (by omega) hb)
      have z1 : sumN (fun r => if b r then 1 else 0) m = 0 := by
        rw [sumN_congr m (h := fun _ => 0) (fun k hk => if_neg (hall (m - k) k (by omega)))]
        exact sumN_zero m
      have z2 : sumN (fun r => if b r then 2 ^ r else 0) m = 0 := by
        rw [sumN_congr m (h := fun _ => 0) (fun k hk => if_neg (hall (m - k) k (by omega)))]
        exact sumN_zero m
      simp only [sumN, if_neg e, z1, z2]
      simp
/-- What may be said of the lengths, by the symbols' order. -/
structure Good6 (n m : Nat) (w : Nat → Int) (L : Nat → Nat) (cost : Int) : Prop where
  pos : ∀ p, p < n → 1 ≤ L p ∧ L p ≤ m
  ord : ∀ p q, p < q → q < n → L q ≤ L p
  full : sumN (fun p => 2 ^ (m - L p)) n = 2 ^ m
  cost : sumZ (fun p => w p * (L p : Int)) n = cost
theorem pre_sum (S : List It) : ∀ t, t ≤ S.length → pre S t = sumZ (fun p => (at_ S p).1) t
  | 0, _ => by simp [pre, sumZ, wsum]
  | t + 1, h => by
    have := pre_sum S t (by omega)
    unfold pre at *
    rw [List.take_succ_eq_append_getElem (by omega), wsum_app, this, sumZ, at_get (by omega)]
    simp [wsum]
theorem sumZ_ind (g : Nat → Int) (t : Nat) : ∀ n, t ≤ n → sumZ (fun p => if p < t then g p else 0) n = sumZ g t
  | 0, h => by
    have : t = 0 := by omega
    subst this
    rfl
  | n + 1, h => by
    by_cases e : t ≤ n
    · rw [sumZ, sumZ_ind g t n e, if_neg (by omega), Int.add_zero]
    · have e2 : t = n + 1 := by omega
      subst e2
      exact sumZ_congr _ (fun k hk => if_pos hk)
theorem good6 {S : List It} (h : Sym S) (m : Nat) (h2 : 2 ≤ S.length) (hm : 1 ≤ m) (hn : S.length ≤ 2 ^ m) :
    Good6 S.length m (fun p => (at_ S p).1) (fun p => sumN (fun r => if p < sprd S (m - 1) (2 * S.length - 2) r then 1 else 0) m) (wsum ((rowI S (m - 1)).take (2 * S.length - 2))) := by
  have hk : 2 * S.length - 2 ≤ (rowI S (m - 1)).length := row_enough S (m - 1) (by rw [show m - 1 + 1 = m by omega]; exact hn)
  have mono := fun r hr => spr_mono h (m - 1) (2 * S.length - 2) r hk hr
  have le := fun r hr => spr_le h (m - 1) (2 * S.length - 2) r hk hr
  have wide := spr_wide h (m - 1) (2 * S.length - 2) hk
  have cost := spr_cost h (m - 1) (2 * S.length - 2) hk
  have top : sprd S (m - 1) (2 * S.length - 2) (m - 1) = S.length := by rw [sprd_top]; exact tk_all h h2 (m - 1) hk
  rw [show m - 1 + 1 = m by omega] at wide cost
  generalize sprd S (m - 1) (2 * S.length - 2) = T at *
  have one := fun p => wide_one (fun r => p < T r) (fun r => Nat.decLt _ _) m (fun r hr hb => by have := mono r (by omega); omega)
  refine ⟨fun p hp => ⟨?_, (one p).2⟩, fun p q hpq hq => ?_, ?_, ?_⟩
  · obtain ⟨u, rfl⟩ : ∃ u, m = u + 1 := ⟨m - 1, by omega⟩
    rw [show u + 1 - 1 = u by omega] at top
    show 1 ≤ sumN _ u + (if p < T u then 1 else 0)
    rw [if_pos (by omega)]
    omega
  · refine sumN_le m (fun k _ => ?_)
    by_cases e : q < T k
    · rw [if_pos e, if_pos (by omega)]; exact Nat.le_refl _
    · rw [if_neg e]; exact Nat.zero_le _
  · have e1 : sumN (fun p => sumN (fun r => if p < T r then 2 ^ r else 0) m) S.length + sumN (fun p => 2 ^ (m - sumN (fun r => if p < T r then 1 else 0) m)) S.length = S.length * 2 ^ m := by
      rw [← sumN_add, sumN_congr S.length (h := fun p => if p < S.length then 2 ^ m else 0) (fun p hp => by rw [if_pos hp]; exact (one p).1)]
      exact sumN_ind _ _ _ (Nat.le_refl _)
    rw [sumN_swap, sumN_congr m (h := fun r => T r * 2 ^ r) (fun r hr => sumN_ind (T r) (2 ^ r) S.length (le r (by omega))), wide] at e1
    have e2 : 2 ^ m = 2 * 2 ^ (m - 1) := by rw [← Nat.pow_succ', show (m - 1).succ = m by omega]
    obtain ⟨u, hu⟩ : ∃ u, S.length = u + 2 := ⟨S.length - 2, by omega⟩
    have e3 : (2 * S.length - 2) * 2 ^ (m - 1) = S.length * 2 ^ m - 2 ^ m := by
      rw [e2, hu, show 2 * (u + 2) - 2 = (u + 1) * 2 by omega, Nat.mul_assoc, show u + 2 = (u + 1) + 1 by omega, Nat.add_mul (u + 1) 1]
      omega
    have e4 : 2 ^ m ≤ S.length * 2 ^ m := Nat.le_mul_of_pos_left _ (by omega)
    omega
  · rw [cost, sumZ_congr m (h := fun r => sumZ (fun p => if p < T r then (at_ S p).1 else 0) S.length) (fun r hr => by
        rw [pre_sum S _ (le r (by omega)), sumZ_ind _ _ _ (le r (by omega))]), ← sumZ_swap]
    refine sumZ_congr _ (fun p hp => ?_)
    have e5 : ∀ (a : Int) (q : Nat), a * ((sumN (fun r => if p < T r then 1 else 0) q : Nat) : Int) = sumZ (fun r => if p < T r then a else 0) q := fun a q => by
      induction q with
      | zero => simp [sumN, sumZ]
      | succ q ih =>
        rw [sumN, sumZ, ← ih]
        by_cases e : p < T q
        · rw [if_pos e, if_pos e, Int.natCast_add, Int.mul_add]; simp
        · rw [if_neg e, if_neg e]; simp
    exact e5 _ m
end Go.Proofs.YtaidboopcoaeeaaDoor.ZFin

namespace Go.Proofs.YtaidboopcoaeeaaDoor.ZUse
open Go.RowKit Go.WideShapes Go.Shelf Go.ChangeShapes Go.ChangeAt
open Go.Proofs.YtaidboopcoaeeaaDoor.ZSrt Go.Proofs.YtaidboopcoaeeaaDoor.ZRis Go.Proofs.YtaidboopcoaeeaaDoor.ZRis2 Go.Proofs.YtaidboopcoaeeaaDoor.ZItm Go.Proofs.YtaidboopcoaeeaaDoor.ZMrg Go.Proofs.YtaidboopcoaeeaaDoor.ZPur Go.Proofs.YtaidboopcoaeeaaDoor.ZSpr Go.Proofs.YtaidboopcoaeeaaDoor.ZBst Go.Proofs.YtaidboopcoaeeaaDoor.ZFin Go.Proofs.YtaidboopcoaeeaaDoor.Math

theorem re_surj {c : Nat → Int} {n : Nat} {s : Nat → Nat} (h : Re 0 (pos c n).length (fun i => (pos c n).getD i 0) s) {x : Nat} (hx : x < n) (hc : 0 < c x) : ∃ p, p < (pos c n).length ∧ s p = x := by
  have hm := (pos_mem c x n).2 ⟨hx, hc⟩
  obtain ⟨j, hj, e⟩ := List.getElem_of_mem hm
  obtain ⟨p, q, h1, _, h3, h4⟩ := h
  have a := h3 j (Nat.zero_le _) hj
  refine ⟨q j, a.2.2.2, ?_⟩
  rw [h4, (h1 j).1]
  show (pos c n).getD j 0 = x
  rw [List.getD_eq_getElem?_getD, List.getElem?_eq_getElem hj]
  exact e
theorem sumZ_upd (g : Nat → Int) (k : Nat) : ∀ n, (k < n → sumZ g n = sumZ (fun x => if x = k then 0 else g x) n + g k) ∧ (n ≤ k → sumZ g n = sumZ (fun x => if x = k then 0 else g x) n)
  | 0 => ⟨fun h => by omega, fun _ => rfl⟩
  | n + 1 => by
    obtain ⟨h1, h2⟩ := sumZ_upd g k n
    refine ⟨fun h => ?_, fun h => ?_⟩
    · simp only [sumZ]
      by_cases e : k = n
      · subst e
        rw [h2 (Nat.le_refl _), if_pos rfl]
        omega
      · rw [h1 (by omega), if_neg (fun e2 => e e2.symm)]
        omega
    · simp only [sumZ]
      rw [h2 (by omega), if_neg (by omega)]
/-- A sum over all places is one over those that count. -/
theorem sumZ_re {s : Nat → Nat} {len : Nat} : ∀ (n : Nat) (g : Nat → Int), (∀ p, p < n → s p < len) → (∀ p q, p < n → q < n → s p = s q → p = q) → (∀ x, x < len → (∀ p, p < n → s p ≠ x) → g x = 0) → sumZ g len = sumZ (fun p => g (s p)) n
  | 0, g, _, _, h0 => by
    rw [sumZ_congr len (h := fun _ => 0) (fun k hk => h0 k hk (fun p hp => absurd hp (Nat.not_lt_zero _)))]
    exact sumZ_zero len
  | n + 1, g, hl, hi, h0 => by
    have ih := sumZ_re n (fun x => if x = s n then 0 else g x) (fun p hp => hl p (by omega)) (fun p q hp hq => hi p q (by omega) (by omega)) (fun x hx hn => by
      by_cases e : x = s n
      · rw [if_pos e]
      · show (if x = s n then 0 else g x) = 0
        rw [if_neg e]
        exact h0 x hx (fun p hp => by
          by_cases e2 : p = n
          · subst e2; exact fun h => e h.symm
          · exact hn p (by omega)))
    rw [(sumZ_upd g (s n) len).1 (hl n (by omega)), ih]
    show _ = sumZ (fun p => g (s p)) n + g (s n)
    rw [sumZ_congr n (g := fun p => if s p = s n then 0 else g (s p)) (h := fun p => g (s p)) (fun p hp => if_neg (fun e => by have := hi p n (by omega) (by omega) e; omega))]
theorem sumN_cast (g : Nat → Nat) : ∀ n, ((sumN g n : Nat) : Int) = sumZ (fun k => (g k : Int)) n
  | 0 => rfl
  | n + 1 => by rw [sumN, sumZ, Int.natCast_add, sumN_cast g n]
theorem kr_sum (M : Nat → Nat) : ∀ n, kr (fun i => (M i : Int)) n = sumN (fun x => pt2 (M x : Int)) n
  | 0 => rfl
  | n + 1 => by rw [kr, sumN, kr_sum M n]
/-- The lengths of two symbols and more. -/
theorem lns_good {c : Nat → Int} {len m : Nat} {s M : Nat → Nat} (h : Lns c len m s M) (h2 : 2 ≤ (pos c len).length) (hm : 1 ≤ m) (hn : (pos c len).length ≤ 2 ^ m) :
    Good6 (pos c len).length m (fun p => c (s p)) (fun p => M (s p)) (wsum ((rowI (wts c (fun i => (s i : Int)) (pos c len).length) (m - 1)).take (2 * (pos c len).length - 2))) := by
  have g := good6 (sym_of h.re h.up) m (by rw [wts_len]; exact h2) hm (by rw [wts_len]; exact hn)
  simp only [wts_len] at g
  have e : ∀ p, p < (pos c len).length → M (s p) = sumN (fun r => if p < sprd (wts c (fun i => (s i : Int)) (pos c len).length) (m - 1) (2 * (pos c len).length - 2) r then 1 else 0) m := h.more (by omega)
  have e2 : ∀ p, p < (pos c len).length → (at_ (wts c (fun i => (s i : Int)) (pos c len).length) p).1 = c (s p) := fun p hp => by rw [wts_at _ _ _ _ hp]; rfl
  refine ⟨fun p hp => ?_, fun p q hpq hq => ?_, ?_, ?_⟩
  · rw [e p hp]; exact g.pos p hp
  · rw [e p (by omega), e q hq]; exact g.ord p q hpq hq
  · rw [← g.full]; exact sumN_congr _ (fun p hp => by rw [e p hp])
  · rw [← g.cost]; exact sumZ_congr _ (fun p hp => by rw [e p hp, e2 p hp])
theorem lns_sum {c : Nat → Int} {len m : Nat} {s M : Nat → Nat} (h : Lns c len m s M) : sumZ (fun x => c x * (M x : Int)) len = sumZ (fun p => c (s p) * (M (s p) : Int)) (pos c len).length :=
  sumZ_re _ (fun x => c x * (M x : Int)) (fun p hp => (re_pos h.re hp).1) (fun p q hp hq e => re_inj h.re hp hq e) (fun x hx hn => by rw [h.none x hx hn]; simp)
theorem lns_kr {c : Nat → Int} {len m : Nat} {s M : Nat → Nat} (h : Lns c len m s M) (h2 : 2 ≤ (pos c len).length) (hm : 1 ≤ m) (hm2 : m ≤ 15) (hn : (pos c len).length ≤ 2 ^ m) : kr (fun i => (M i : Int)) len = 32768 := by
  have g := lns_good h h2 hm hn
  have e1 : ((kr (fun i => (M i : Int)) len : Nat) : Int) = sumZ (fun p => ((pt2 (M (s p) : Int) : Nat) : Int)) (pos c len).length := by
    rw [kr_sum, sumN_cast]
    exact sumZ_re _ (fun x => ((pt2 (M x : Int) : Nat) : Int)) (fun p hp => (re_pos h.re hp).1) (fun p q hp hq e => re_inj h.re hp hq e) (fun x hx hn => by rw [h.none x hx hn]; rfl)
  rw [← sumN_cast, sumN_congr (pos c len).length (h := fun p => 2 ^ (m - M (s p)) * 2 ^ (15 - m)) (fun p hp => by
    have : 1 ≤ M (s p) ∧ M (s p) ≤ m := g.pos p hp
    unfold pt2
    rw [if_neg (by omega), ← Nat.pow_add]
    congr 1
    omega), sumN_mul, g.full, ← Nat.pow_add, show m + (15 - m) = 15 by omega] at e1
  omega
end Go.Proofs.YtaidboopcoaeeaaDoor.ZUse

namespace Go.Proofs.YtaidboopcoaeeaaDoor.ZLns
open Go.RowKit Go.WideShapes Go.Shelf Go.ChangeShapes Go.ChangeAt Go.Proofs.YtaidboopcoaeeaaDoor.Math Go.Proofs.YtaidboopcoaeeaaDoor.ZSrt Go.Proofs.YtaidboopcoaeeaaDoor.ZRis Go.Proofs.YtaidboopcoaeeaaDoor.ZRis2 Go.Proofs.YtaidboopcoaeeaaDoor.ZItm Go.Proofs.YtaidboopcoaeeaaDoor.ZMrg Go.Proofs.YtaidboopcoaeeaaDoor.ZPur Go.Proofs.YtaidboopcoaeeaaDoor.ZSpr Go.Proofs.YtaidboopcoaeeaaDoor.ZBst Go.Proofs.YtaidboopcoaeeaaDoor.ZFin Go.Proofs.YtaidboopcoaeeaaDoor.ZUse

theorem lns_le {c : Nat → Int} {len m : Nat} {s M : Nat → Nat} (h : Lns c len m s M) (hm : 1 ≤ m) (hn : (pos c len).length ≤ 2 ^ m) (x : Nat) (hx : x < len) : M x ≤ m := by
  by_cases e : ∃ p, p < (pos c len).length ∧ s p = x
  · obtain ⟨p, hp, rfl⟩ := e
    by_cases h1 : (pos c len).length = 1
    · rw [show p = 0 by omega, h.one h1]
      exact hm
    · exact ((lns_good h (by omega) hm hn).pos p hp).2
  · rw [h.none x hx (fun p hp e2 => e ⟨p, hp, e2⟩)]
    exact Nat.zero_le _
theorem many_sum (M : Nat → Nat) : ∀ n, many (fun i => (M i : Int)) n = sumN (fun x => if M x = 0 then 0 else 1) n
  | 0 => rfl
  | n + 1 => by
    have e : many (fun i => (M i : Int)) (n + 1) = many (fun i => (M i : Int)) n + (if ((M n : Nat) : Int) = 0 then 0 else 1) := rfl
    rw [e, sumN, many_sum M n]
    by_cases h : M n = 0
    · rw [if_pos h, if_pos (by omega)]
    · rw [if_neg h, if_neg (by omega)]
theorem lns_pos {c : Nat → Int} {len m : Nat} {s M : Nat → Nat} (h : Lns c len m s M) (hm : 1 ≤ m) (hn : (pos c len).length ≤ 2 ^ m) (p : Nat) (hp : p < (pos c len).length) : 1 ≤ M (s p) := by
  by_cases h1 : (pos c len).length = 1
  · rw [show p = 0 by omega, h.one h1]
    exact Nat.le_refl _
  · exact ((lns_good h (by omega) hm hn).pos p hp).1
/-- Some for each that comes, none for the others. -/
theorem lns_some {c : Nat → Int} {len m : Nat} {s M : Nat → Nat} (h : Lns c len m s M) (hm : 1 ≤ m) (hn : (pos c len).length ≤ 2 ^ m) (x : Nat) (hx : x < len) : 0 < M x ↔ 0 < c x := by
  constructor
  · intro h0
    by_cases e : ∃ p, p < (pos c len).length ∧ s p = x
    · obtain ⟨p, hp, rfl⟩ := e
      exact (re_pos h.re hp).2
    · have := h.none x hx (fun p hp e2 => e ⟨p, hp, e2⟩)
      omega
  · intro h0
    obtain ⟨p, hp, rfl⟩ := re_surj h.re hx h0
    exact lns_pos h hm hn p hp
theorem lns_one {c : Nat → Int} {len m : Nat} {s M : Nat → Nat} (h : Lns c len m s M) (h1 : (pos c len).length = 1) (x : Nat) (hx : x < len) : M x ≤ 1 := by
  by_cases e : s 0 = x
  · rw [← e, h.one h1]
    exact Nat.le_refl _
  · rw [h.none x hx (fun p hp => by rw [show p = 0 by omega]; exact e)]
    omega
theorem lns_chk {c : Nat → Int} {len m : Nat} {s M : Nat → Nat} (h : Lns c len m s M) (hm : 1 ≤ m) (hm2 : m ≤ 15) (hn : (pos c len).length ≤ 2 ^ m) (h0 : (pos c len).length ≠ 0) : chk (fun i => (M i : Int)) len = 0 := by
  unfold chk
  rw [if_pos ((rngB_iff _ len).2 (fun k hk => by have := lns_le h hm hn k hk; exact ⟨Int.natCast_nonneg _, by show (M k : Int) ≤ 15; omega⟩))]
  by_cases h1 : (pos c len).length = 1
  · have e1 : ((many (fun i => (M i : Int)) len : Nat) : Int) = sumZ (fun p => (((if M (s p) = 0 then 0 else 1 : Nat)) : Int)) (pos c len).length := by
      rw [many_sum, sumN_cast]
      exact sumZ_re _ (fun x => (((if M x = 0 then 0 else 1 : Nat)) : Int)) (fun p hp => (re_pos h.re hp).1) (fun p q hp hq e => re_inj h.re hp hq e) (fun x hx hn => by rw [h.none x hx hn]; rfl)
    rw [h1] at e1
    simp only [sumZ, h.one h1] at e1
    have e2 : many (fun i => (M i : Int)) len = 1 := by
      simp at e1
      omega
    rw [if_pos (.inl e2)]
  · rw [if_pos (.inr (lns_kr h (by omega) hm hm2 hn))]
theorem okB_succ (c : Nat → Int) (n : Nat) : okB c (n + 1) = (okB c n && decide (0 ≤ c n ∧ c n ≤ 4294967296)) := rfl
theorem pos_yes {c : Nat → Int} {n : Nat} (h : 0 < c n) : (pos c (n + 1)).length = (pos c n).length + 1 := by
  show (if 0 < c n then _ else _ : List Nat).length = _
  rw [if_pos h, List.length_append]
  rfl
theorem pos_no {c : Nat → Int} {n : Nat} (h : ¬ 0 < c n) : (pos c (n + 1)).length = (pos c n).length := by
  show (if 0 < c n then _ else _ : List Nat).length = _
  rw [if_neg h]
end Go.Proofs.YtaidboopcoaeeaaDoor.ZLns

namespace Go.Proofs.YtaidboopcoaeeaaDoor.ZPai
open Go.ChangeShapes Go.WideShapes Go.ChangeAt Go.RowKit Go.Shelf Go.Proofs.YtaidboopcoaeeaaDoor.Core Go.Proofs.YtaidboopcoaeeaaDoor.Gnd Go.Proofs.YtaidboopcoaeeaaDoor.ZItm Go.Proofs.YtaidboopcoaeeaaDoor.ZMrg Go.Proofs.YtaidboopcoaeeaaDoor.ZPur
attribute [local go_sem] Oper.semAt_some

/-- The blocks of P stay. -/
def Bp (P : Nat → Prop) (W W' : World) : Prop := ∀ k, P k → W'.heap[k]? = W.heap[k]?
theorem Bp.cell {P : Nat → Prop} {W W' : World} (h : Bp P W W') {p : Addr} (hp : P p.block) : W'.cell? p = W.cell? p := World.cell?_of_block (h p.block hp)
theorem Bp.trans {P : Nat → Prop} {A B C : World} (h : Bp P A B) (k : Bp P B C) : Bp P A C := fun i hi => (k i hi).trans (h i hi)
abbrev ag (x : It) : Value := .agg #[.int .i64 x.1, .bool x.2]
abbrev en2 (p : It × It) : Array Value := #[ag p.1, ag p.2]
def two (xs : List It) (m : Nat) : List (It × It) := (List.range m).map fun i => (at_ xs (2 * i), at_ xs (2 * i + 1))
theorem two_succ (xs : List It) (m : Nat) : two xs (m + 1) = two xs m ++ [(at_ xs (2 * m), at_ xs (2 * m + 1))] := by simp [two, List.range_succ]
theorem two_len (xs : List It) (m : Nat) : (two xs m).length = m := by simp [two]

set_option maxRecDepth 100000 in
set_option maxHeartbeats 2000000 in
theorem pai31 (n : Nat) (hn : 1 ≤ n) (l B1 len c1 : Nat) (P : Nat → Prop) (a1 : Option Addr) (xs : List It) (hlen : xs.length = len) (hB1 : P B1) (hl1 : len ≤ 100000) (J Jx : List (It × It) → World → Prop)
    (hJ : ∀ pre W, J pre W → J pre W.drew)
    (hY : ∀ pre x W, J pre W → pre.length < len / 2 → YieldAt Fence.wide (n - 1) Tryd.prog l (en2 x) W fun e W' =>
      (e = .returned (.bool true) ∧ J (pre ++ [x]) W' ∧ Bp P W W') ∨ (e = .returned (.bool false) ∧ Jx (pre ++ [x]) W'))
    (W : World) (hc1 : W.cell? ⟨B1, 0, none⟩ = some (.slice a1 len c1))
    (d1 : ∀ i, i < len → ∃ b o, a1 = some ⟨b, o, none⟩ ∧ P b ∧ W.cell? ⟨b, o + i * 2, none⟩ = some (.int .i64 (at_ xs i).1) ∧ W.cell? ⟨b, o + i * 2 + 1, none⟩ = some (.bool (at_ xs i).2)) (h0 : J [] W) :
    CallsIn Fence.wide n Tryd.prog 92 #[.func (.yield l) #[] #[], .pointer (some ⟨B1, 0, none⟩)] W fun e W' => (∃ v, e = .returned v) ∧
      ((∃ ys, ys = two xs (len / 2) ∧ J ys W') ∨ (∃ pre, True ∧ Jx pre W')) := by
  have hmx : Tryd.prog.follows .mixedOrders = true := by kernel_rfl
  have YY := hide hY
  have JW := hide hJ
  have D1 := hide d1
  have HL := hide hlen
  clear hY hJ d1 hlen
  refine callsIn_of_wp Tryd.func92 rfl trivial ?_ rfl
  simp only [Tryd.ntmps92, List.size_toArray, List.length_cons, List.length_nil, Nat.reduceAdd, Nat.reduceSub, Array.replicate_succ, Array.replicate_zero, List.push_toArray, List.append_toArray, List.nil_append, List.cons_append]
  gi_wp2
  gi_loopw [3] (fun i wr => ∃ k q : Nat, k ≤ len / 2 ∧ Hid (q = 2 * k) ∧ i = .int .i64 ((q : Int) + 1) ∧ J (two xs k) wr ∧ Bp P W wr) (fun i _ => len + 1 - (intOf i).toNat)
  case atStart => exact ⟨0, 0, Nat.zero_le _, rfl, rfl, h0, fun _ _ => rfl⟩
  case round =>
    obtain ⟨k, q, hk, HQ2, rfl, hJs, hnx⟩ := hrel
    have JJ := hide hJs
    have NX := hide hnx
    have hq := unhide HQ2
    have y1 := (hnx.cell (p := ⟨B1, 0, none⟩) hB1).trans hc1
    by_cases hlt : q + 1 < len
    · have hlt' : (q : Int) + 1 < (len : Int) := by omega
      have hql : (q : Int) < (len : Int) := by omega
      obtain ⟨b, o, rfl, q1, e1, e2⟩ := unhide D1 q (by omega)
      obtain ⟨b', o', e, q2, e3, e4⟩ := unhide D1 (q + 1) (by omega)
      cases e
      have x1 := (hnx.cell (p := ⟨b, o + q * 2, none⟩) q1).trans e1
      have x2 := (hnx.cell (p := ⟨b, o + q * 2 + 1, none⟩) q1).trans e2
      have x3 := (hnx.cell (p := ⟨b, o + (q + 1) * 2, none⟩) q1).trans e3
      have x4 := (hnx.cell (p := ⟨b, o + (q + 1) * 2 + 1, none⟩) q1).trans e4
      have TS := hide (show two xs (k + 1) = two xs k ++ [(at_ xs q, at_ xs (q + 1))] from by rw [two_succ, hq])
      obtain ⟨u, hu⟩ : ∃ u, at_ xs q = u := ⟨_, rfl⟩
      obtain ⟨v, hv⟩ : ∃ v, at_ xs (q + 1) = v := ⟨_, rfl⟩
      rw [hu] at x1 x2
      rw [hv] at x3 x4
      rw [hu, hv] at TS
      obtain ⟨u1, u2⟩ := u
      obtain ⟨v1, v2⟩ := v
      simp only at x1 x2 x3 x4
      obtain ⟨fn, tmps, assign, body, hy, hR⟩ := unhide YY _ ((u1, u2), (v1, v2)) wr.drew (unhide JW _ _ (unhide JJ)) (by rw [two_len]; omega)
      dsimp only [en2, ag] at hy
      have HR := hide (hR.mono (R' := fun e W' => ∃ b : Bool, e = .returned (.bool b) ∧ ((b = true ∧ J (two xs k ++ [((u1, u2), (v1, v2))]) W' ∧ Bp P wr.drew W') ∨ (b = false ∧ Jx (two xs k ++ [((u1, u2), (v1, v2))]) W'))) (fun e W' h => by
        rcases h with ⟨e1, e2, e3⟩ | ⟨e1, e2⟩
        · exact ⟨true, e1, .inl ⟨rfl, e2, e3⟩⟩
        · exact ⟨false, e1, .inr ⟨rfl, e2⟩⟩))
      have hk1 : k + 1 ≤ len / 2 := by omega
      have hql2 : q ≤ 100000 := by omega
      clear hJs hnx e1 e2 e3 e4 hc1 q1 q2 hR hu hv hq
      gi_wp2
      rename_i Q1 Q2 K1 h1K K hK
      have HK : ∀ (t : Bool) (W3 : World), ((t = true ∧ J (two xs k ++ [((u1, u2), (v1, v2))]) W3 ∧ Bp P wr.drew W3) ∨ (t = false ∧ Jx (two xs k ++ [((u1, u2), (v1, v2))]) W3)) → K { tmps := #[.func (.yield l) #[] #[], .pointer (some ⟨B1, 0, none⟩), undef, .int .i64 ((q : Int) + 1), .int .i64 ((q : Int) + 1), .slice (some ⟨b, o, none⟩) len c1, .int .i64 len, .bool true, u8, u9, .func (.yield l) #[] #[], .slice (some ⟨b, o, none⟩) len c1, .int .i64 ((q : Int) + 1), .int .i64 q, .pointer (some ⟨b, o + q * 2, none⟩), .agg #[.int .i64 u1, .bool u2], .slice (some ⟨b, o, none⟩) len c1, .int .i64 ((q : Int) + 1), .pointer (some ⟨b, o + (q + 1) * 2, none⟩), .agg #[.int .i64 v1, .bool v2], .bool t, .bool (!t)], defers := [] } W3 := by
        intro t W3 h3
        have H3 := hide h3
        clear h3
        refine hK _ _ ?_
        cases t
        · gi_wp2
          refine bodyPost_ret (results_none rfl _ _ _) rfl ?_
          rcases unhide H3 with ⟨e1, _⟩ | ⟨_, e2⟩
          · cases e1
          · exact ⟨⟨_, rfl⟩, .inr ⟨_, e2⟩⟩
        · gi_wp2
          go_roundw
          case rel =>
            rcases unhide H3 with ⟨_, e2, e3⟩ | ⟨e1, _⟩
            · exact ⟨k + 1, q + 2, hk1, (show q + 2 = 2 * (k + 1) by have := unhide HQ2; omega), by go_num, by rw [unhide TS]; exact e2, (unhide NX).trans (fun i h1 => (e3 i h1))⟩
            · cases e1
          case measure => simp [intOf]; omega
      refine (fun key : ∀ QQ : Act → World → Prop, (∀ (t : Bool) (W3 : World), ((t = true ∧ J (two xs k ++ [((u1, u2), (v1, v2))]) W3 ∧ Bp P wr.drew W3) ∨ (t = false ∧ Jx (two xs k ++ [((u1, u2), (v1, v2))]) W3)) → QQ { tmps := #[.func (.yield l) #[] #[], .pointer (some ⟨B1, 0, none⟩), undef, .int .i64 ((q : Int) + 1), .int .i64 ((q : Int) + 1), .slice (some ⟨b, o, none⟩) len c1, .int .i64 len, .bool true, u8, u9, .func (.yield l) #[] #[], .slice (some ⟨b, o, none⟩) len c1, .int .i64 ((q : Int) + 1), .int .i64 q, .pointer (some ⟨b, o + q * 2, none⟩), .agg #[.int .i64 u1, .bool u2], .slice (some ⟨b, o, none⟩) len c1, .int .i64 ((q : Int) + 1), .pointer (some ⟨b, o + (q + 1) * 2, none⟩), .agg #[.int .i64 v1, .bool v2], .bool t, .bool (!t)], defers := [] } W3) → Code.wpIn Fence.wide n Tryd.prog _ (Exit.then QQ (fun _ _ _ => False)) _ wr => Code.wpIn_mono (fun e a w h => by cases e <;> first | exact h | exact False.elim h) (key _ (fun t W3 h => HK t W3 h))) ?_
      clear hK h1K HK K K1 Q2 Q1 YY JW D1 JJ NX h0 hB1 hk hk1 HQ2 TS HL hlt
      have e10 : IntKind.i64.wrap (q : Int) = (q : Int) := by simp [IntKind.wrap, IntKind.bits, IntKind.signed]; omega
      have h00 : (0 : Int) ≤ (q : Int) := by omega
      intro QQ hq
      have HQ := hide hq
      clear hq
      gi_region_with_o (refine (unhide HR).mono ?_; rintro e W3 ⟨t, rfl, h3⟩; have H3 := hide h3; clear h3)
      all_goals first | exact unhide HQ _ _ (unhide H3) | (rw [e10]; exact unhide HQ _ _ (unhide H3))
    · have hnl : ¬ (q : Int) + 1 < (len : Int) := by omega
      have hke : k = len / 2 := by omega
      clear hJs hnx hq
      gi_wp2
      go_end0
      refine ⟨⟨_, rfl⟩, .inl ?_⟩
      rw [← hke]
      exact unhide JJ
end Go.Proofs.YtaidboopcoaeeaaDoor.ZPai
