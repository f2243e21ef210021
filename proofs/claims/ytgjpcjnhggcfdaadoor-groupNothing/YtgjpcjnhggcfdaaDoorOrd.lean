/- Contract: a tree's order: its symbols, the shorter codes first. Conditions: the tree lies in memory, its words are few. -/
import Derived.Test.YtgjpcjnhggcfdaaDoorCou
import Derived.Deep.MidRow
namespace Go.Proofs.YtgjpcjnhggcfdaaDoor.Ord
open Go.ChangeShapes Go.WideShapes Go.ChangeAt Go.RowKit Go.Proofs.YtgjpcjnhggcfdaaDoor.Core Go.Proofs.YtgjpcjnhggcfdaaDoor.Gnd Go.Proofs.YtgjpcjnhggcfdaaDoor.Math Go.Proofs.YtgjpcjnhggcfdaaDoor.Rvm Go.Proofs.YtgjpcjnhggcfdaaDoor.Dec Go.Proofs.YtgjpcjnhggcfdaaDoor.Wrd Go.Proofs.YtgjpcjnhggcfdaaDoor.Cou

/-- Numbers in a row. -/
def nr (f : Nat → Nat) (n : Nat) : List Value := (List.range n).map fun k => Value.int .i64 (f k)
theorem nr_len (f : Nat → Nat) (n : Nat) : (nr f n).length = n := by simp [nr]
theorem nr_at (f : Nat → Nat) (n k : Nat) (h : k < n) : (nr f n)[k]? = some (.int .i64 (f k)) := by simp [nr, h]
theorem na_size (f : Nat → Nat) (n : Nat) : (nr f n).toArray.size = n := by simp [nr]
theorem na_at (f : Nat → Nat) (n k : Nat) (h : k < n) : (nr f n).toArray[k]? = some (.int .i64 (f k)) := by simp [nr, h]
theorem na_ext {xs : Array Value} {f : Nat → Nat} {n : Nat} (hs : xs.size = n) (h : ∀ j, j < n → xs[j]? = some (.int .i64 (f j))) : xs = (nr f n).toArray := by
  apply Array.ext_getElem?
  intro j
  by_cases hj : j < n
  · rw [h j hj, na_at f n j hj]
  · rw [Array.getElem?_eq_none (by omega), Array.getElem?_eq_none (by rw [na_size]; omega)]
theorem na_set (f : Nat → Nat) (n k z : Nat) : (nr f n).toArray.setIfInBounds k (.int .i64 z) = (nr (fun j => if j = k then z else f j) n).toArray := by
  refine na_ext (by simp [nr]) fun j hj => ?_
  rw [Array.getElem?_setIfInBounds, na_at _ _ _ hj, na_size]
  by_cases e : k = j
  · subst e; simp [hj]
  · have : ¬ j = k := fun h => e h.symm
    simp [e, this]
theorem na_congr {f g : Nat → Nat} {n : Nat} (h : ∀ k, k < n → f k = g k) : (nr f n).toArray = (nr g n).toArray :=
  na_ext (na_size _ _) fun j hj => by rw [na_at _ _ _ hj, h j hj]
theorem na_made (n : Nat) : madeCells #[.int .i64 0] n = (nr (fun _ => 0) n).toArray := by
  refine na_ext (by simp [size_madeCells]) fun j hj => ?_
  simp [madeCells, hj, Nat.mod_one]
theorem info3 : (Tryd.prog.info? 3).map (fun i => (i.zero, i.size, i.bytes)) = some (some (.int .i64 0), 1, 8) := by kernel_rfl
theorem make_ints (w : World) (n : Nat) (hn : n ≤ 10000000) : (Instr.makeSlice 25 (.int .i64 n) (.int .i64 n)).run Tryd.prog w = .ok (.slice (some ⟨w.heap.size, 0, none⟩) n n) (w.alloc (.cells (nr (fun _ => 0) n).toArray 3)) := by
  obtain ⟨i0, hi, hz0, hz1, hz2⟩ := info_parts info3
  have := run_make (P := Tryd.prog) w 25 3 i0 (.int .i64 0) Tryd.underlying25 hi hz0 .i64 .i64 n n (by omega) (by omega) (by rw [hz2]; omega) (by omega)
  rw [hz1] at this
  rw [this]
  simp [Value.cells, na_made]
theorem info53 (f : Nat → Nat) : (Tryd.prog.info? 81).map (·.size) = some (nr f 16).length := by
  rw [nr_len]
  kernel_rfl
theorem index_row (f : Nat → Nat) (k : Nat) (hk : k < 16) (w : World) : (Instr.index 81 (.agg (nr f 16).toArray) (.int .i64 k)).run Tryd.prog w = .ok (.int .i64 (f k)) w := by
  have h1 : ∀ (v : Array Value) (x : Value), v[k]? = some x → (Instr.index 81 (.agg v) (.int .i64 k)).run Tryd.prog w = .ok x w := by
    intro v x hv
    simp [Instr.index, run_underlying Tryd.underlying81, asIntOf, hk, go_sem, hv]
  exact h1 _ _ (na_at _ _ _ hk)
theorem upd_new {S : Nat → Prop} {a w : World} (h : Upd S a w) {p : Addr} (hp : a.heap.size ≤ p.block) (u : Value) : Upd S a (w.setCell p u) :=
  ⟨h.os, h.tape, h.output, by simpa [World.setCell] using h.size, fun k hk hs => (Below.heap_setCell _ _ _ _ (by omega)).trans (h.block k hk hs)⟩
theorem tc_range {w : World} {g le : Nat} {v s : Value} {f : Nat → Nat} (h : Box w g 83 (tc v s f le)) : w.rangeAt g 2 (nr f 16) := by
  intro j x hx
  have hj : j < 16 := by
    have := (List.getElem?_eq_some_iff.1 hx).1
    rwa [nr_len] at this
  rw [nr_at _ _ _ hj] at hx
  rw [← hx]
  exact (h.cell (2 + j)).trans (tc_at _ _ _ _ j hj)
/-- Where the next symbol of so many bits goes, behind the first k lengths. -/
structure One (w wr : World) (g N tb n le k : Nat) (q : Nat → Int) (s : Value) : Prop where
  row : Box wr N 81 (nr (fun j => if j < k then bel q n j else 0) 16).toArray
  box : Box wr g 83 (tc (.slice (some ⟨tb, 0, none⟩) n n) s (fun m => cq q m n) le)
  upd : Upd (fun k => k = g) w wr
theorem One.put {w wr : World} {g tb n le k : Nat} {q : Nat → Int} {s : Value} (h : One w wr g w.heap.size tb n le k q s) (hg : g ≠ w.heap.size) : One w (wr.setCell ⟨w.heap.size, k, none⟩ (.int .i64 (bel q n k))) g w.heap.size tb n le (k + 1) q s := by
  refine ⟨?_, h.box.other (by exact hg) _, upd_new h.upd (by exact Nat.le_refl _) _⟩
  have := h.row.set k (.int .i64 (bel q n k))
  rw [na_set, na_congr (g := fun j => if j < k + 1 then bel q n j else 0) (fun j _ => ?_)] at this
  · exact this
  · by_cases e : j = k
    · subst e
      rw [if_pos rfl, if_pos (by omega)]
    · rw [if_neg e]
      by_cases h2 : j < k
      · rw [if_pos h2, if_pos (by omega)]
      · rw [if_neg h2, if_neg (by omega)]
structure Two (w wr : World) (g N tb sb n le k : Nat) (q : Nat → Int) : Prop where
  row : Box wr N 81 (nr (fun m => bel q n m + cq q m k) 16).toArray
  box : Box wr g 83 (tc (.slice (some ⟨tb, 0, none⟩) n n) (.slice (some ⟨sb, 0, none⟩) (bel q n 16) (bel q n 16)) (fun m => cq q m n) le)
  syms : ∃ xs, Box wr sb 3 xs ∧ xs.size = bel q n 16 ∧ ∀ j, j < k → 0 ≤ q j → xs[ps q n j]? = some (.int .i64 j)
  upd : Upd (fun k => k = g) w wr
theorem Two.skip {w wr : World} {g N tb sb n le k : Nat} {q : Nat → Int} (h : Two w wr g N tb sb n le k q) (hq : q k = -1) (o : Obj) : Two w (wr.alloc o) g N tb sb n le (k + 1) q := by
  obtain ⟨xs, x1, x2, x3⟩ := h.syms
  refine ⟨?_, h.box.alloc o, ⟨xs, x1.alloc o, x2, fun j hj h0 => x3 j ?_ h0⟩, h.upd.alloc o⟩
  · rw [na_congr (g := fun m => bel q n m + cq q m k) (fun m _ => by rw [cq_not (by rw [hq]; omega)])]
    exact h.row.alloc o
  · by_cases e : j = k
    · subst e; omega
    · omega
theorem Two.put {w wr : World} {g N tb sb n le k m P : Nat} {q : Nat → Int} (h : Two w wr g N tb sb n le k q) (hm : q k = (m : Int)) (hk : k < n) (h15 : m ≤ 15) (hN : w.heap.size ≤ N) (hS : w.heap.size ≤ sb) (hNs : sb ≠ N) (hsg : sb ≠ g) (hNg : g ≠ N)
    (hP : bel q n m + cq q m k = P) (z : Int) (hz : z = ((P + 1 : Nat) : Int)) (o : Obj) :
    Two w (((wr.setCell ⟨sb, P, none⟩ (.int .i64 (k : Int))).setCell ⟨N, m, none⟩ (.int .i64 z)).alloc o).drew g N tb sb n le (k + 1) q := by
  subst hz
  obtain ⟨xs, x1, x2, x3⟩ := h.syms
  have hp : ps q n k = P := (ps_of hm).trans hP
  have hPt : P < bel q n 16 := by
    rw [← hp]
    exact ps_tot hk (by omega) (by omega)
  refine ⟨?_, ?_, ⟨xs.setIfInBounds P (.int .i64 (k : Int)), ?_, by simpa using x2, fun j hj h0 => ?_⟩, ?_⟩
  · have := ((h.row.other (p := ⟨sb, P, none⟩) (by exact hNs.symm) (.int .i64 (k : Int))).set m (.int .i64 ((P + 1 : Nat) : Int))).alloc o
    rw [na_set, na_congr (g := fun m => bel q n m + cq q m (k + 1)) (fun j _ => ?_)] at this
    · exact this
    · by_cases e : j = m
      · subst e
        rw [if_pos rfl, cq_here hm]
        omega
      · rw [if_neg e, cq_not (by rw [hm]; omega)]
  · exact ((h.box.other (p := ⟨sb, P, none⟩) (by exact hsg.symm) _).other (p := ⟨N, m, none⟩) (by exact hNg) _).alloc o
  · exact ((x1.set P _).other (p := ⟨N, m, none⟩) (by exact hNs) _).alloc o
  · rw [Array.getElem?_setIfInBounds]
    by_cases e : j = k
    · subst e
      rw [if_pos hp.symm, if_pos (by omega)]
    · rw [if_neg ?_]
      · exact x3 j (by omega) h0
      · rw [← hp]
        exact fun h2 => ps_ne (by omega) hk h0 (by omega) h2.symm
  · exact upd_drew ((upd_new (upd_new h.upd (by exact hS) _) (by exact hN) _).alloc o)
set_option maxHeartbeats 1000000 in
theorem order25 (g tb n le : Nat) (u : Nat → Nat) (q : Nat → Int) (s : Value) (w : World) (hb : Box w g 83 (tc (.slice (some ⟨tb, 0, none⟩) n n) s (fun m => cq q m n) le)) (hw : Box w tb 99 (wrow u q n)) (hne : tb ≠ g) (hn : n ≤ 100000)
    (hq : ∀ k, k < n → -1 ≤ q k ∧ q k ≤ 15) :
    Calls Tryd.prog 31 #[.pointer (some ⟨g, 0, none⟩)] w fun e w' => e = .returned (.tuple #[]) ∧ ∃ sb, w.heap.size ≤ sb ∧ sb < w'.heap.size ∧
      Box w' g 83 (tc (.slice (some ⟨tb, 0, none⟩) n n) (.slice (some ⟨sb, 0, none⟩) (bel q n 16) (bel q n 16)) (fun m => cq q m n) le) ∧
      (∀ k, k < n → 0 ≤ q k → w'.cell? ⟨sb, ps q n k, none⟩ = some (.int .i64 k)) ∧ Upd (fun k => k = g) w w' := by
  have HB := hide hb
  have HW := hide hw
  have HQ := hide hq
  have hgl := hb.lt
  have htl := hw.lt
  have RA := hide (fun o => tc_range (hb.alloc o))
  clear hb hw hq
  go_enter Tryd.func31, Tryd.ntmps31
  go_wp2_with (first | (refine wpList_load_mid rfl 81 (.tmp 10) rfl g 2 rfl (nr (fun m => cq q m n) 16) _ (unhide RA _) Tryd.underlying81 rfl (info53 _) ?_) | fail)
  go_loopw [3, 12] (fun t i wr => ∃ k : Nat, k ≤ 16 ∧ i = .int .i64 k ∧ t = .int .i64 (bel q n k) ∧ One w wr g w.heap.size tb n le k q s) (fun _ i _ => 16 - (intOf i).toNat)
  case atStart =>
    refine ⟨0, Nat.zero_le _, rfl, rfl, ?_, (unhide HB).alloc _, (Upd.refl _ w).alloc _⟩
    rw [na_congr (g := fun _ => 0) (fun k _ => if_neg (by omega))]
    exact Box.made w 81 _
  case round =>
    obtain ⟨k, hk, rfl, rfl, one⟩ := hrel
    have ONE := hide one
    have hbl := bel_le q n k
    have hcl := cq_le q k n
    by_cases hlt : k < 16
    · have hlt' : (k : Int) < 16 := by omega
      have hix := fun w => index_row (fun m => cq q m n) k hlt w
      have f0 := one.row.free k
      have c0 := (one.row.cell k).trans (na_at _ _ k hlt)
      have hkb : k * n ≤ 16 * 100000 := Nat.mul_le_mul (by omega) hn
      have HBB := hide (show bel q n (k + 1) = bel q n k + cq q k n from rfl)
      clear one RA
      generalize hx : bel q n k = x at *
      have HX := hide hx
      generalize hy : cq q k n = y at *
      clear hx hy
      go_wp2
      go_roundw
      case rel =>
        refine ⟨k + 1, by omega, by go_num, by rw [unhide HBB]; go_num, ?_⟩
        have := (unhide ONE).put (by omega)
        rw [unhide HX] at this
        exact this
      case measure => simp [intOf]; omega
    · obtain rfl : k = 16 := by omega
      have hmk := fun w => make_ints w (bel q n 16) (by omega)
      have hnl : ¬ (16 : Int) < 16 := by omega
      have f1 := one.box.free 1
      have c1 := (one.box.cell 1).trans (tc_1 _ _ _ _)
      have WB := hide ((unhide HW).keep one.upd hne)
      have c0 := (one.box.cell 0).trans (tc_0 _ _ _ _)
      have hgl2 := one.box.lt
      have hgn2 : g ≠ wr.heap.size := by omega
      have hNl := one.row.lt
      have TWO := hide (show Two w ((wr.setCell ⟨g, 1, none⟩ (.slice (some ⟨wr.heap.size, 0, none⟩) (bel q n 16) (bel q n 16))).alloc (.cells (nr (fun _ => 0) (bel q n 16)).toArray 3)) g w.heap.size tb wr.heap.size n le 0 q from by
        refine ⟨?_, ?_, ⟨(nr (fun _ => 0) (bel q n 16)).toArray, ?_, na_size _ _, fun j hj => by omega⟩, (one.upd.setCell (p := ⟨g, 1, none⟩) rfl _).alloc _⟩
        · rw [na_congr (f := fun m => bel q n m + cq q m 0) (g := fun j => if j < 16 then bel q n j else 0) (n := 16) (fun j hj => by rw [if_pos hj]; rfl)]
          exact (one.row.other (p := ⟨g, 1, none⟩) (by exact fun h => by simp at h; omega) _).alloc _
        · have := one.box.set 1 (.slice (some ⟨wr.heap.size, 0, none⟩) (bel q n 16) (bel q n 16))
          rw [tc_set1] at this
          exact this.alloc _
        · have := Box.made (wr.setCell ⟨g, 1, none⟩ (.slice (some ⟨wr.heap.size, 0, none⟩) (bel q n 16) (bel q n 16))) 3 (nr (fun _ => 0) (bel q n 16)).toArray
          rw [show (wr.setCell ⟨g, 1, none⟩ (.slice (some ⟨wr.heap.size, 0, none⟩) (bel q n 16) (bel q n 16))).heap.size = wr.heap.size by simp [World.setCell]] at this
          exact this)
      clear one RA hk hlt
      generalize htot : bel q n 16 = tot at *
      have hsb : w.heap.size < wr.heap.size := hNl
      have HT := hide htot
      generalize hsb0 : wr.heap.size = sb at *
      clear htot
      go_wp2
      go_loopw [33] (fun i wr => ∃ k : Nat, k ≤ n ∧ i = .int .i64 k ∧ Two w wr g w.heap.size tb sb n le k q) (fun i _ => n - (intOf i).toNat)
      case atStart =>
        refine ⟨0, Nat.zero_le _, rfl, ?_⟩
        have := unhide TWO
        exact this
      case round =>
        obtain ⟨k, hk, rfl, two⟩ := hrel
        have TW := hide two
        have WB3 := hide ((unhide HW).keep two.upd hne)
        obtain ⟨xs, x1, x2, x3⟩ := two.syms
        have hsl := x1.lt
        clear c0 c1 f1 TWO ONE
        by_cases hlt : k < n
        · have hlt' : (k : Int) < (n : Int) := by omega
          have c0 := ((unhide WB3).cell (k * 2)).trans (wrow_bits _ _ n k hlt)
          have c1 := ((unhide WB3).cell (k * 2 + 1)).trans (wrow_cnt _ _ n k hlt)
          have hgl3 := two.box.lt
          have hgn3 : g ≠ wr.heap.size := by omega
          obtain ⟨q1, q2⟩ := unhide HQ k hlt
          by_cases hz : q k = -1
          · have HZ := hide hz
            rw [hz] at c1
            clear hz q1 q2 two x1 x2 x3
            go_wp2
            go_roundw
            case rel => exact ⟨k + 1, by omega, by go_num, (unhide TW).skip (unhide HZ) _⟩
            case measure => simp [intOf]; omega
          · obtain ⟨m, hm⟩ : ∃ m : Nat, q k = (m : Int) := ⟨(q k).toNat, by omega⟩
            have hm15 : m ≤ 15 := by omega
            have hm16 : (m : Int) < 16 := by omega
            have HM := hide hm
            have cg := (two.box.cell 1).trans (tc_1 _ _ _ _)
            have cN := (two.row.cell m).trans (na_at _ _ m (by omega))
            have fN := two.row.free m
            have hP := ps_tot hlt (by omega) q2
            have EP := hide (ps_of (n := n) hm)
            rw [ps_of hm, unhide HT] at hP
            rw [unhide HT] at cg
            obtain ⟨y, hy⟩ : ∃ y, xs[bel q n m + cq q m k]? = some y := by
              rw [unhide HT] at x2
              exact ⟨_, Array.getElem?_eq_getElem (by omega)⟩
            have cs := (x1.cell (bel q n m + cq q m k)).trans hy
            have fs := x1.free (bel q n m + cq q m k)
            rw [hm] at c1
            have hNs : sb ≠ w.heap.size := by omega
            have hNg : g ≠ w.heap.size := by omega
            have hNl3 := two.row.lt
            have hNn : w.heap.size ≠ wr.heap.size := by omega
            have hsn : sb ≠ wr.heap.size := by omega
            have hsg : sb ≠ g := by omega
            clear hz q1 q2 two hm hy x1 x2 x3
            generalize hPe : bel q n m + cq q m k = P at *
            have HPE := hide hPe
            have hPt : (P : Int) < (tot : Int) := by omega
            clear hPe
            generalize hNe : w.heap.size = N at *
            go_wp2
            go_region
            go_wp2
            go_roundw
            case rel => exact ⟨k + 1, by omega, by go_num, (unhide TW).put (unhide HM) hlt hm15 (by omega) (by omega) hNs hsg hNg (unhide HPE) _ (by omega) _⟩
            case measure => simp [intOf]; omega
        · obtain rfl : k = n := by omega
          have hnl2 : ¬ (k : Int) < (k : Int) := by omega
          clear hlt
          go_wp2
          go_end0
          refine ⟨rfl, sb, by omega, hsl, ?_, fun j hj h0 => (x1.cell _).trans (x3 j hj h0), two.upd⟩
          have := two.box
          exact this
end Go.Proofs.YtgjpcjnhggcfdaaDoor.Ord
