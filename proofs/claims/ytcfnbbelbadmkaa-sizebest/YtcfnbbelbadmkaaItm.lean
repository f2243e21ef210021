/- Contract: size.weights; rows of items. Conditions: the slices read as integers, and they are few. -/
import Derived.Test.YtcfnbbelbadmkaaGnd
import Derived.Maps.AppendAt
import Derived.Laws.AppendOwnNone
import Derived.Deep.RegionLaw
namespace Go.Proofs.Ytcfnbbelbadmkaa.Itm
open Go.ChangeShapes Go.WideShapes Go.ChangeAt Go.RowKit Go.Proofs.Ytcfnbbelbadmkaa.Core Go.Proofs.Ytcfnbbelbadmkaa.Gnd

/-- Items: a weight, and whether it is a symbol's. -/
abbrev It := Int × Bool
def nul : It := (0, false)
def at_ (xs : List It) (i : Nat) : It := xs.getD i nul
/-- A slice of items that is read. -/
def Its (w : World) (v : Value) (xs : List It) : Prop :=
  (v = .slice none 0 0 ∧ xs = []) ∨ ∃ b off cap, v = .slice (some ⟨b, off, none⟩) xs.length cap ∧ xs.length ≤ cap ∧ ∀ i, i < xs.length → w.cell? ⟨b, off + i * 2, none⟩ = some (.int .i64 (at_ xs i).1) ∧ w.cell? ⟨b, off + (i * 2 + 1), none⟩ = some (.bool (at_ xs i).2)
theorem Its.keep {w w' : World} {v : Value} {xs : List It} (h : Its w v xs) (u : Below w.heap.size w w') : Its w' v xs := by
  rcases h with h | ⟨b, off, cap, e, hl, hc⟩
  · exact .inl h
  · refine .inr ⟨b, off, cap, e, hl, fun i hi => ?_⟩
    obtain ⟨h2, h3⟩ := hc i hi
    exact ⟨(u.cell (lt_of_cell h2)).trans h2, (u.cell (lt_of_cell h3)).trans h3⟩
theorem Its.nil (w : World) : Its w (.slice none 0 0) [] := .inl ⟨rfl, rfl⟩
/-- Items in a block. -/
def irow (u : Nat → Int) (q : Nat → Bool) (n : Nat) : Array Value := ((List.range (n * 2)).map fun j => if j % 2 = 0 then Value.int .i64 (u (j / 2)) else Value.bool (q (j / 2))).toArray
theorem irow_size (u : Nat → Int) (q : Nat → Bool) (n : Nat) : (irow u q n).size = n * 2 := by simp [irow]
theorem irow_at (u : Nat → Int) (q : Nat → Bool) (n j : Nat) (h : j < n * 2) : (irow u q n)[j]? = some (if j % 2 = 0 then Value.int .i64 (u (j / 2)) else Value.bool (q (j / 2))) := by
  simp [irow, h]
theorem irow_int (u : Nat → Int) (q : Nat → Bool) (n k : Nat) (h : k < n) : (irow u q n)[k * 2]? = some (Value.int .i64 (u k)) := by
  rw [irow_at _ _ _ _ (by omega), if_pos (by omega), show k * 2 / 2 = k by omega]
theorem irow_bool (u : Nat → Int) (q : Nat → Bool) (n k : Nat) (h : k < n) : (irow u q n)[k * 2 + 1]? = some (Value.bool (q k)) := by
  rw [irow_at _ _ _ _ (by omega), if_neg (by omega), show (k * 2 + 1) / 2 = k by omega]
theorem irow_ext {xs : Array Value} {u : Nat → Int} {q : Nat → Bool} {n : Nat} (hs : xs.size = n * 2) (h : ∀ k, k < n → xs[k * 2]? = some (.int .i64 (u k)) ∧ xs[k * 2 + 1]? = some (.bool (q k))) : xs = irow u q n := by
  apply Array.ext_getElem?
  intro j
  by_cases hj : j < n * 2
  · obtain ⟨h1, h2⟩ := h (j / 2) (by omega)
    rcases Nat.mod_two_eq_zero_or_one j with e | e
    · have e2 : j / 2 * 2 = j := by omega
      have h3 := irow_int u q n (j / 2) (by omega)
      rw [e2] at h1 h3
      rw [h1, h3]
    · have e2 : j / 2 * 2 + 1 = j := by omega
      have h3 := irow_bool u q n (j / 2) (by omega)
      rw [e2] at h2 h3
      rw [h2, h3]
  · rw [Array.getElem?_eq_none (by omega), Array.getElem?_eq_none (by rw [irow_size]; omega)]
theorem irow_congr {u u' : Nat → Int} {q q' : Nat → Bool} {n : Nat} (h : ∀ k, k < n → u k = u' k ∧ q k = q' k) : irow u q n = irow u' q' n :=
  irow_ext (irow_size _ _ _) fun k hk => by rw [irow_int _ _ _ _ hk, irow_bool _ _ _ _ hk, (h k hk).1, (h k hk).2]; exact ⟨rfl, rfl⟩
theorem irow_set_int (u : Nat → Int) (q : Nat → Bool) (n i : Nat) (z : Int) : (irow u q n).setIfInBounds (i * 2) (.int .i64 z) = irow (fun k => if k = i then z else u k) q n := by
  refine irow_ext (by simp [irow_size]) fun k hk => ?_
  rw [Array.getElem?_setIfInBounds, Array.getElem?_setIfInBounds, irow_int _ _ _ _ hk, irow_bool _ _ _ _ hk, irow_size, if_neg (show ¬ i * 2 = k * 2 + 1 by omega)]
  by_cases e : k = i
  · subst e
    simp; omega
  · simp [e, show ¬ i * 2 = k * 2 by omega]
theorem irow_set_bool (u : Nat → Int) (q : Nat → Bool) (n i : Nat) (z : Bool) : (irow u q n).setIfInBounds (i * 2 + 1) (.bool z) = irow u (fun k => if k = i then z else q k) n := by
  refine irow_ext (by simp [irow_size]) fun k hk => ?_
  rw [Array.getElem?_setIfInBounds, Array.getElem?_setIfInBounds, irow_int _ _ _ _ hk, irow_bool _ _ _ _ hk, irow_size, if_neg (show ¬ i * 2 + 1 = k * 2 by omega)]
  by_cases e : k = i
  · subst e
    simp; omega
  · have e2 : ¬ i * 2 = k * 2 := by omega
    simp [e, e2]
theorem iput {w : World} {g n : Nat} {u : Nat → Int} {q : Nat → Bool} (h : Box w g 56 (irow u q n)) (k : Nat) (X : Int) (z : Bool) :
    Box ((w.setCell ⟨g, k * 2, none⟩ (.int .i64 X)).setCell ⟨g, k * 2 + 1, none⟩ (.bool z)) g 56 (irow (fun j => if j = k then X else u j) (fun j => if j = k then z else q j) n) := by
  have := (h.set (k * 2) (.int .i64 X)).set (k * 2 + 1) (.bool z)
  rw [irow_set_int, irow_set_bool] at this
  exact this
theorem info56 : (Try.prog.info? 56).map (fun i => (i.zero, i.size, i.bytes)) = some (some (.agg #[.int .i64 0, .bool false]), 2, 16) := by kernel_rfl
theorem irow_made (n : Nat) : madeCells #[.int .i64 0, .bool false] (n * 2) = irow (fun _ => 0) (fun _ => false) n := by
  refine irow_ext (by simp [size_madeCells]) fun k hk => ?_
  simp [madeCells, show k * 2 < n * 2 by omega, show k * 2 + 1 < n * 2 by omega, show (k * 2 + 1) % 2 = 1 by omega]
theorem make_items (w : World) (n : Nat) (hn : n ≤ 1000000) : (Instr.makeSlice 42 (.int .i64 n) (.int .i64 n)).run Try.prog w = .ok (.slice (some ⟨w.heap.size, 0, none⟩) n n) (w.alloc (.cells (irow (fun _ => 0) (fun _ => false) n) 56)) := by
  obtain ⟨i0, hi, hz0, hz1, hz2⟩ := info_parts info56
  have := run_make (P := Try.prog) w 42 56 i0 _ Try.underlying42 hi hz0 .i64 .i64 n n (by omega) (by omega) (by rw [hz2]; omega) (by omega)
  rw [hz1] at this
  rw [this]
  simp [Value.cells, irow_made]
theorem make_room (w : World) (n : Nat) (hn : n ≤ 1000000) : (Instr.makeSlice 42 (.int .i64 0) (.int .i64 n)).run Try.prog w = .ok (.slice (some ⟨w.heap.size, 0, none⟩) 0 n) (w.alloc (.cells (irow (fun _ => 0) (fun _ => false) n) 56)) := by
  obtain ⟨i0, hi, hz0, hz1, hz2⟩ := info_parts info56
  have := run_make (P := Try.prog) w 42 56 i0 _ Try.underlying42 hi hz0 .i64 .i64 0 n (by omega) (by omega) (by rw [hz2]; omega) (by omega)
  rw [hz1] at this
  rw [this]
  simp [Value.cells, irow_made]
/-- The symbols' items. -/
def wts (c s : Nat → Int) (n : Nat) : List It := (List.range n).map fun i => (c (s i).toNat, true)
theorem wts_len (c s : Nat → Int) (n : Nat) : (wts c s n).length = n := by simp [wts]
theorem wts_at (c s : Nat → Int) (n i : Nat) (h : i < n) : at_ (wts c s n) i = (c (s i).toNat, true) := by
  simp [at_, wts, h]
structure Wei (w wr : World) (n k : Nat) (c s : Nat → Int) : Prop where
  box : Box wr w.heap.size 56 (irow (fun i => if i < k then c (s i).toNat else 0) (fun i => decide (i < k)) n)
  bel : Below w.heap.size w wr
theorem Wei.put {w wr : World} {n k : Nat} {c s : Nat → Int} (h : Wei w wr n k c s) : Wei w ((wr.setCell ⟨w.heap.size, k * 2, none⟩ (.int .i64 (c (s k).toNat))).setCell ⟨w.heap.size, k * 2 + 1, none⟩ (.bool true)) n (k + 1) c s := by
  refine ⟨?_, (h.bel.setCell (p := ⟨w.heap.size, k * 2, none⟩) (Nat.le_refl _) _).setCell (p := ⟨w.heap.size, k * 2 + 1, none⟩) (Nat.le_refl _) _⟩
  have := iput h.box k (c (s k).toNat) true
  rw [irow_congr (u' := fun i => if i < k + 1 then c (s i).toNat else 0) (q' := fun i => decide (i < k + 1)) (fun j _ => ?_)] at this
  · exact this
  · by_cases e : j = k
    · subst e; simp
    · by_cases h2 : j < k
      · simp [e, h2, show j < k + 1 by omega]
      · simp [e, h2, show ¬ j < k + 1 by omega]
set_option maxHeartbeats 1000000 in
theorem wei16 (v u : Value) (len n : Nat) (c s : Nat → Int) (w : World) (sc : Ints .i64 w v len c) (su : Ints .i64 w u n s) (hs : ∀ i, i < n → 0 ≤ s i ∧ s i < len) (hn : n ≤ 100000) :
    Calls Try.prog 16 #[v, u] w fun e w' => ∃ r, e = .returned r ∧ Its w' r (wts c s n) ∧ Below w.heap.size w w' := by
  have SC := hide sc
  have SU := hide su
  have HS := hide hs
  obtain ⟨a1, cap1, rfl, _⟩ := sc
  obtain ⟨a2, cap2, rfl, _⟩ := su
  have hmk := fun w => make_items w n (by omega)
  clear hs
  go_enter Try.func16, Try.ntmps16
  go_wp2
  go_loopw [13] (fun i wr => ∃ k : Nat, k ≤ n ∧ i = .int .i64 k ∧ Wei w wr n k c s) (fun i _ => n - (intOf i).toNat)
  case atStart =>
    refine ⟨0, Nat.zero_le _, rfl, ⟨?_, (Below.refl _ w).alloc (Nat.le_refl _) _⟩⟩
    rw [irow_congr (u' := fun _ => 0) (q' := fun _ => false) (fun k _ => ⟨by simp, by simp⟩)]
    exact Box.made w 56 _
  case round =>
    obtain ⟨k, hk, rfl, wei⟩ := hrel
    have WEI := hide wei
    by_cases hlt : k < n
    · have hlt' : (k : Int) < (n : Int) := by omega
      obtain ⟨a, cap, e, h2⟩ := (unhide SU).keep wei.bel
      cases e
      obtain ⟨b, off, rfl, hcell⟩ := h2 k hlt
      obtain ⟨s1, s2⟩ := unhide HS k hlt
      obtain ⟨m, hm⟩ : ∃ m : Nat, s k = (m : Int) := ⟨(s k).toNat, by omega⟩
      obtain ⟨a', cap', e', h3⟩ := (unhide SC).keep wei.bel
      cases e'
      obtain ⟨b', off', rfl, hcell'⟩ := h3 m (by omega)
      have f0 := wei.box.free (k * 2)
      have f1 := wei.box.free (k * 2 + 1)
      have c0 := (wei.box.cell (k * 2)).trans (irow_int _ _ n k hlt)
      have c1 := (wei.box.cell (k * 2 + 1)).trans (irow_bool _ _ n k hlt)
      have hml : (m : Int) < (len : Int) := by omega
      rw [hm] at hcell
      have NX := hide (show Wei w ((wr.setCell ⟨w.heap.size, k * 2, none⟩ (.int .i64 (c m))).setCell ⟨w.heap.size, k * 2 + 1, none⟩ (.bool true)) n (k + 1) c s from by
        have := (unhide WEI).put
        rw [hm] at this
        exact this)
      clear wei h2 h3 s1 s2 hm WEI
      go_wp2
      go_roundw
      case rel => exact ⟨k + 1, by omega, by go_num, unhide NX⟩
      case measure => simp [intOf]; omega
    · obtain rfl : k = n := by omega
      have hnl : ¬ (k : Int) < (k : Int) := by omega
      clear hlt
      go_wp2
      go_ret
      refine ⟨_, rfl, .inr ⟨w.heap.size, 0, k, by rw [wts_len]; rfl, by rw [wts_len]; exact Nat.le_refl _, fun i hi => ?_⟩, wei.bel⟩
      rw [wts_len] at hi
      constructor
      · rw [Nat.zero_add, wts_at _ _ _ _ hi, wei.box.cell, irow_int _ _ _ _ hi, if_pos hi]
      · rw [Nat.zero_add, wts_at _ _ _ _ hi, wei.box.cell, irow_bool _ _ _ _ hi, decide_eq_true hi]
end Go.Proofs.Ytcfnbbelbadmkaa.Itm
