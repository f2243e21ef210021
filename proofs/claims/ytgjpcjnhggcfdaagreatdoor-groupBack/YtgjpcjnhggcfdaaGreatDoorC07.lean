/-
  Contract: a tree's count: how many symbols have a code of so many bits, and the least of these. Conditions: the tree lies in memory, its words are few, one has a code.
  Contract: a tree's order: its symbols, the shorter codes first. Conditions: the tree lies in memory, its words are few.
  Contracts: tree.New, Cost, and a tree in memory. Conditions: the slice reads as integers, and they are few.
  Contracts: tree.Read by the state that the reader is in. Conditions: the tree and the reader lie apart in memory, the reader's bytes are few.
-/
import Derived.Test.YtgjpcjnhggcfdaaGreatDoorC06
import Derived.Deep.MidRow
namespace Go.Proofs.YtgjpcjnhggcfdaaGreatDoor.Cou
open Go.ChangeShapes Go.WideShapes Go.ChangeAt Go.RowKit Go.Proofs.YtgjpcjnhggcfdaaGreatDoor.Core Go.Proofs.YtgjpcjnhggcfdaaGreatDoor.Gnd Go.Proofs.YtgjpcjnhggcfdaaGreatDoor.Math Go.Proofs.YtgjpcjnhggcfdaaGreatDoor.Rvm Go.Proofs.YtgjpcjnhggcfdaaGreatDoor.Dec Go.Proofs.YtgjpcjnhggcfdaaGreatDoor.Wrd

/-- A tree's cells. -/
def tc (v s : Value) (f : Nat → Nat) (le : Nat) : Array Value := ((List.range 19).map fun j => if j = 0 then v else if j = 1 then s else if j = 18 then Value.int .i64 le else .int .i64 (f (j - 2))).toArray
theorem tc_size (v s : Value) (f : Nat → Nat) (le : Nat) : (tc v s f le).size = 19 := by simp [tc]
theorem tc_any (v s : Value) (f : Nat → Nat) (le j : Nat) (h : j < 19) : (tc v s f le)[j]? = some (if j = 0 then v else if j = 1 then s else if j = 18 then Value.int .i64 le else .int .i64 (f (j - 2))) := by
  simp [tc, h]
theorem tc_0 (v s : Value) (f : Nat → Nat) (le : Nat) : (tc v s f le)[0]? = some v := by rw [tc_any _ _ _ _ _ (by omega)]; rfl
theorem tc_1 (v s : Value) (f : Nat → Nat) (le : Nat) : (tc v s f le)[1]? = some s := by rw [tc_any _ _ _ _ _ (by omega)]; rfl
theorem tc_18 (v s : Value) (f : Nat → Nat) (le : Nat) : (tc v s f le)[18]? = some (.int .i64 le) := by rw [tc_any _ _ _ _ _ (by omega)]; rfl
theorem tc_at (v s : Value) (f : Nat → Nat) (le m : Nat) (h : m < 16) : (tc v s f le)[2 + m]? = some (.int .i64 (f m)) := by
  rw [tc_any _ _ _ _ _ (by omega), if_neg (by omega), if_neg (by omega), if_neg (by omega), show 2 + m - 2 = m by omega]
theorem tc_ext {xs ys : Array Value} (hx : xs.size = 19) (hy : ys.size = 19) (h : ∀ j, j < 19 → xs[j]? = ys[j]?) : xs = ys := by
  apply Array.ext_getElem?
  intro j
  by_cases hj : j < 19
  · exact h j hj
  · rw [Array.getElem?_eq_none (by omega), Array.getElem?_eq_none (by omega)]
theorem tc_set (v s : Value) (f : Nat → Nat) (le m z : Nat) (h : m < 16) : (tc v s f le).setIfInBounds (2 + m) (.int .i64 z) = tc v s (fun j => if j = m then z else f j) le := by
  refine tc_ext (by simp [tc_size]) (tc_size _ _ _ _) fun j hj => ?_
  rw [Array.getElem?_setIfInBounds, tc_any _ _ _ _ _ hj, tc_any _ _ _ _ _ hj, tc_size]
  by_cases e : 2 + m = j
  · subst e
    rw [if_pos rfl, if_pos hj, if_neg (by omega), if_neg (by omega), if_neg (by omega), if_pos (by omega)]
  · rw [if_neg e]
    by_cases e2 : j - 2 = m
    · have : j = 0 ∨ j = 1 := by omega
      rcases this with rfl | rfl <;> rfl
    · rw [if_neg e2]
theorem tc_set18 (v s : Value) (f : Nat → Nat) (le z : Nat) : (tc v s f le).setIfInBounds 18 (.int .i64 z) = tc v s f z := by
  refine tc_ext (by simp [tc_size]) (tc_size _ _ _ _) fun j hj => ?_
  rw [Array.getElem?_setIfInBounds, tc_any _ _ _ _ _ hj, tc_any _ _ _ _ _ hj, tc_size]
  by_cases e : 18 = j
  · subst e; rfl
  · rw [if_neg e, if_neg (show ¬ j = 18 by omega), if_neg (show ¬ j = 18 by omega)]
theorem tc_set1 (v s : Value) (f : Nat → Nat) (le : Nat) (z : Value) : (tc v s f le).setIfInBounds 1 z = tc v z f le := by
  refine tc_ext (by simp [tc_size]) (tc_size _ _ _ _) fun j hj => ?_
  rw [Array.getElem?_setIfInBounds, tc_any _ _ _ _ _ hj, tc_any _ _ _ _ _ hj, tc_size]
  by_cases e : 1 = j
  · subst e; rfl
  · rw [if_neg e, if_neg (show ¬ j = 1 by omega), if_neg (show ¬ j = 1 by omega)]
theorem tc_congr {v s : Value} {f f' : Nat → Nat} {le : Nat} (h : ∀ m, m < 16 → f m = f' m) : tc v s f le = tc v s f' le := by
  refine tc_ext (tc_size _ _ _ _) (tc_size _ _ _ _) fun j hj => ?_
  rw [tc_any _ _ _ _ _ hj, tc_any _ _ _ _ _ hj]
  by_cases e : j = 0
  · rw [if_pos e, if_pos e]
  · by_cases e1 : j = 1
    · rw [if_neg e, if_pos e1, if_neg e, if_pos e1]
    · by_cases e2 : j = 18
      · rw [if_neg e, if_neg e1, if_pos e2, if_neg e, if_neg e1, if_pos e2]
      · rw [if_neg e, if_neg e1, if_neg e2, if_neg e, if_neg e1, if_neg e2, h (j - 2) (by omega)]
theorem tput {w : World} {g le : Nat} {v s : Value} {f : Nat → Nat} (h : Box w g 98 (tc v s f le)) (m z : Nat) (zi : Int) (hz : zi = (z : Int)) (hm : m < 16) (f' : Nat → Nat) (hf : ∀ j, j < 16 → (if j = m then z else f j) = f' j) :
    Box (w.setCell ⟨g, 2 + m, none⟩ (.int .i64 zi)) g 98 (tc v s f' le) := by
  subst hz
  have := h.set (2 + m) (.int .i64 z)
  rw [tc_set _ _ _ _ _ _ hm, tc_congr hf] at this
  exact this
theorem tput18 {w : World} {g le : Nat} {v s : Value} {f : Nat → Nat} (h : Box w g 98 (tc v s f le)) (z : Nat) (zi : Int) (hz : zi = (z : Int)) : Box (w.setCell ⟨g, 18, none⟩ (.int .i64 zi)) g 98 (tc v s f z) := by
  subst hz
  have := h.set 18 (.int .i64 z)
  rw [tc_set18] at this
  exact this
theorem upd_drew {S : Nat → Prop} {a w : World} (h : Upd S a w) : Upd S a w.drew := ⟨h.os, h.tape, h.output, h.size, h.block⟩
/-- The count in the tree's last cell. -/
def lst (g : Nat) (w : World) : Nat := 16 - (intOf ((w.cell? ⟨g, 18, none⟩).getD (.bool false))).toNat
theorem lst_box {w : World} {g le : Nat} {v s : Value} {f : Nat → Nat} (h : Box w g 98 (tc v s f le)) : lst g w = 16 - le := by
  unfold lst
  rw [(h.cell 18).trans (tc_18 _ _ _ _)]
  simp [intOf]
set_option maxHeartbeats 1000000 in
theorem count24 (g tb n : Nat) (u : Nat → Nat) (q : Nat → Int) (s : Value) (w : World) (hb : Box w g 98 (tc (.slice (some ⟨tb, 0, none⟩) n n) s (fun _ => 0) 0)) (hw : Box w tb 107 (wrow u q n)) (hne : tb ≠ g) (hn : n ≤ 100000)
    (hq : ∀ k, k < n → -1 ≤ q k ∧ q k ≤ 15) (hex : ∃ k, k < n ∧ 0 ≤ q k) :
    Calls Tryz.prog 41 #[.pointer (some ⟨g, 0, none⟩)] w fun e w' => e = .returned (.tuple #[]) ∧ ∃ le, le ≤ 15 ∧ 0 < cq q le n ∧ (∀ j, j < le → cq q j n = 0) ∧ Box w' g 98 (tc (.slice (some ⟨tb, 0, none⟩) n n) s (fun m => cq q m n) le) ∧ Upd (fun k => k = g) w w' := by
  have HB := hide hb
  have HW := hide hw
  have HQ := hide hq
  have HEX := hide hex
  have t0 := (hb.cell 0).trans (tc_0 _ _ _ _)
  clear hb hw hq hex
  go_enter Tryz.func41, Tryz.ntmps41
  go_wp2
  go_loopw [9] (fun i wr => ∃ k : Nat, k ≤ n ∧ i = .int .i64 k ∧ Box wr g 98 (tc (.slice (some ⟨tb, 0, none⟩) n n) s (fun m => cq q m k) 0) ∧ Upd (fun k => k = g) w wr) (fun i _ => n - (intOf i).toNat)
  case atStart => exact ⟨0, Nat.zero_le _, rfl, unhide HB, Upd.refl _ _⟩
  case round =>
    obtain ⟨k, hk, rfl, bx, up⟩ := hrel
    have BX := hide bx
    have UP := hide up
    have WB := hide ((unhide HW).keep up hne)
    clear t0
    by_cases hlt : k < n
    · have hlt' : (k : Int) < (n : Int) := by omega
      have c0 := ((unhide WB).cell (k * 2)).trans (wrow_bits _ _ n k hlt)
      have c1 := ((unhide WB).cell (k * 2 + 1)).trans (wrow_cnt _ _ n k hlt)
      have hgl := bx.lt
      have hgn : g ≠ wr.heap.size := by omega
      obtain ⟨q1, q2⟩ := unhide HQ k hlt
      by_cases hz : q k = -1
      · have HZ := hide hz
        rw [hz] at c1
        clear hz q1 q2 bx up
        go_wp2
        go_roundw
        case rel =>
          refine ⟨k + 1, by omega, by go_num, ?_, (unhide UP).alloc _⟩
          rw [tc_congr (f' := fun m => cq q m k) (fun m _ => cq_not (by rw [unhide HZ]; omega))]
          exact (unhide BX).alloc _
        case measure => simp [intOf]; omega
      · obtain ⟨m, hm⟩ : ∃ m : Nat, q k = (m : Int) := ⟨(q k).toNat, by omega⟩
        have hm15 : m ≤ 15 := by omega
        have HM := hide hm
        have cl := cq_le q m k
        have ct := (bx.cell (2 + m)).trans (tc_at _ _ _ _ m (by omega))
        have ft := bx.free (2 + m)
        rw [hm] at c1
        clear hz q1 q2 bx up hm
        generalize hy : cq q m k = y at *
        have HY := hide hy
        clear hy
        have hm16 : (m : Int) < 16 := by omega
        go_wp2
        go_region
        go_wp2
        go_roundw
        case rel =>
          refine ⟨k + 1, by omega, by go_num, ?_, upd_drew (((unhide UP).setCell (p := ⟨g, 2 + m, none⟩) rfl _).alloc _)⟩
          refine (tput (unhide BX) m (y + 1) _ (by omega) (by omega) (fun m => cq q m (k + 1)) (fun j _ => ?_)).alloc _
          by_cases e : j = m
          · subst e
            rw [if_pos rfl, cq_here (unhide HM), unhide HY]
          · rw [if_neg e, cq_not (by rw [unhide HM]; omega)]
        case measure => simp [intOf]; omega
    · obtain rfl : k = n := by omega
      have hnl : ¬ (k : Int) < (k : Int) := by omega
      clear bx up WB hlt
      obtain ⟨j0, j1, j2⟩ := unhide HEX
      have q0 := unhide HQ j0 j1
      have x0 := cq_lt (q := q) (m := (q j0).toNat) j1 (by omega)
      obtain ⟨le, hle, hl1, hl2⟩ := least (fun m => 0 < cq q m k) (q j0).toNat (by omega)
      have hle15 : le ≤ 15 := by omega
      have HL1 := hide hl1
      have HL2 := hide (show ∀ j, j < le → cq q j k = 0 from fun j hj => by have := hl2 j hj; omega)
      clear j1 j2 q0 x0 hl1 hl2 HEX HQ hle j0
      go_wp2
      go_loopw [28] (fun _ wr => ∃ d : Nat, d ≤ le ∧ Box wr g 98 (tc (.slice (some ⟨tb, 0, none⟩) k k) s (fun m => cq q m k) d) ∧ Upd (fun k => k = g) w wr) (fun _ wr => lst g wr)
      case atStart => exact ⟨0, Nat.zero_le _, unhide BX, unhide UP⟩
      case round =>
        obtain ⟨d, hd, bx, up⟩ := hrel
        have BX2 := hide bx
        have UP2 := hide up
        have c18 := (bx.cell 18).trans (tc_18 _ _ _ _)
        have f18 := bx.free 18
        have cd := (bx.cell (2 + d)).trans (tc_at _ _ _ _ d (by omega))
        have hd16 : (d : Int) < 16 := by omega
        have hd15 : d ≤ 15 := by omega
        clear bx up BX UP HB HW
        by_cases e : d = le
        · subst e
          have hne0 : ¬ ((cq q d k : Nat) : Int) = 0 := by have := unhide HL1; omega
          have cle := cq_le q d k
          generalize hy : cq q d k = y at *
          go_wp2
          go_quiet (fail)
          go_wp2
          go_end0
          exact ⟨rfl, d, hle15, by have := unhide HL1; rw [hy]; exact this, unhide HL2, (unhide BX2).drewN _, (unhide UP2).drewN _⟩
        · have e0 := unhide HL2 d (by omega)
          rw [e0] at cd
          go_wp2
          go_quiet (fail)
          go_wp2
          go_roundw
          case rel => exact ⟨d + 1, by omega, tput18 ((unhide BX2).drewN _) (d + 1) _ (by omega), ((unhide UP2).drewN _).setCell (p := ⟨g, 18, none⟩) rfl _⟩
          case measure =>
            rw [lst_box (unhide BX2), lst_box (tput18 ((unhide BX2).drewN nq) (d + 1) _ (by omega))]
            omega
end Go.Proofs.YtgjpcjnhggcfdaaGreatDoor.Cou

namespace Go.Proofs.YtgjpcjnhggcfdaaGreatDoor.Ord
open Go.ChangeShapes Go.WideShapes Go.ChangeAt Go.RowKit Go.Proofs.YtgjpcjnhggcfdaaGreatDoor.Core Go.Proofs.YtgjpcjnhggcfdaaGreatDoor.Gnd Go.Proofs.YtgjpcjnhggcfdaaGreatDoor.Math Go.Proofs.YtgjpcjnhggcfdaaGreatDoor.Rvm Go.Proofs.YtgjpcjnhggcfdaaGreatDoor.Dec Go.Proofs.YtgjpcjnhggcfdaaGreatDoor.Wrd Go.Proofs.YtgjpcjnhggcfdaaGreatDoor.Cou

/-- Numbers in a row. -/
def nr (f : Nat → Nat) (n : Nat) : List Value := (List.range n).map fun k => Value.int .i64 (f k)
theorem nr_len (f : Nat → Nat) (n : Nat) : (nr f n).length = n := by simp [nr]
theorem nr_at (f : Nat → Nat) (n k : Nat) (h : k < n) : (nr f n)[k]? = some (.int .i64 (f k)) := by simp [nr, h]
theorem na_size (f : Nat → Nat) (n : Nat) : (nr f n).toArray.size = n := by simp [nr]
theorem na_at (f : Nat → Nat) (n k : Nat) (h : k < n) : (nr f n).toArray[k]? = some (.int .i64 (f k)) := by simp [nr, h]
theorem na_ext {xs : Array Value} {f : Nat → Nat} {n : Nat} (hs : xs.size = n) (h : ∀ j, j < n → xs[j]? = some (.int .i64 (f j))) : xs = (nr f n).toArray := by
  apply Array.ext_getElem?
  intro j
  by_cases hj : j < n
  · rw [h j hj, na_at f n j hj]
  · rw [Array.getElem?_eq_none (by omega), Array.getElem?_eq_none (by rw [na_size]; omega)]
theorem na_set (f : Nat → Nat) (n k z : Nat) : (nr f n).toArray.setIfInBounds k (.int .i64 z) = (nr (fun j => if j = k then z else f j) n).toArray := by
  refine na_ext (by simp [nr]) fun j hj => ?_
  rw [Array.getElem?_setIfInBounds, na_at _ _ _ hj, na_size]
  by_cases e : k = j
  · subst e; simp [hj]
  · have : ¬ j = k := fun h => e h.symm
    simp [e, this]
theorem na_congr {f g : Nat → Nat} {n : Nat} (h : ∀ k, k < n → f k = g k) : (nr f n).toArray = (nr g n).toArray :=
  na_ext (na_size _ _) fun j hj => by rw [na_at _ _ _ hj, h j hj]
theorem na_made (n : Nat) : madeCells #[.int .i64 0] n = (nr (fun _ => 0) n).toArray := by
  refine na_ext (by simp [size_madeCells]) fun j hj => ?_
  simp [madeCells, hj, Nat.mod_one]
theorem info3 : (Tryz.prog.info? 3).map (fun i => (i.zero, i.size, i.bytes)) = some (some (.int .i64 0), 1, 8) := by kernel_rfl
theorem make_ints (w : World) (n : Nat) (hn : n ≤ 10000000) : (Instr.makeSlice 26 (.int .i64 n) (.int .i64 n)).run Tryz.prog w = .ok (.slice (some ⟨w.heap.size, 0, none⟩) n n) (w.alloc (.cells (nr (fun _ => 0) n).toArray 3)) := by
  obtain ⟨i0, hi, hz0, hz1, hz2⟩ := info_parts info3
  have := run_make (P := Tryz.prog) w 26 3 i0 (.int .i64 0) Tryz.underlying26 hi hz0 .i64 .i64 n n (by omega) (by omega) (by rw [hz2]; omega) (by omega)
  rw [hz1] at this
  rw [this]
  simp [Value.cells, na_made]
theorem info53 (f : Nat → Nat) : (Tryz.prog.info? 96).map (·.size) = some (nr f 16).length := by
  rw [nr_len]
  kernel_rfl
theorem index_row (f : Nat → Nat) (k : Nat) (hk : k < 16) (w : World) : (Instr.index 96 (.agg (nr f 16).toArray) (.int .i64 k)).run Tryz.prog w = .ok (.int .i64 (f k)) w := by
  have h1 : ∀ (v : Array Value) (x : Value), v[k]? = some x → (Instr.index 96 (.agg v) (.int .i64 k)).run Tryz.prog w = .ok x w := by
    intro v x hv
    simp [Instr.index, run_underlying Tryz.underlying96, asIntOf, hk, go_sem, hv]
  exact h1 _ _ (na_at _ _ _ hk)
theorem upd_new {S : Nat → Prop} {a w : World} (h : Upd S a w) {p : Addr} (hp : a.heap.size ≤ p.block) (u : Value) : Upd S a (w.setCell p u) :=
  ⟨h.os, h.tape, h.output, by simpa [World.setCell] using h.size, fun k hk hs => (Below.heap_setCell _ _ _ _ (by omega)).trans (h.block k hk hs)⟩
theorem tc_range {w : World} {g le : Nat} {v s : Value} {f : Nat → Nat} (h : Box w g 98 (tc v s f le)) : w.rangeAt g 2 (nr f 16) := by
  intro j x hx
  have hj : j < 16 := by
    have := (List.getElem?_eq_some_iff.1 hx).1
    rwa [nr_len] at this
  rw [nr_at _ _ _ hj] at hx
  rw [← hx]
  exact (h.cell (2 + j)).trans (tc_at _ _ _ _ j hj)
/-- Where the next symbol of so many bits goes, behind the first k lengths. -/
structure One (w wr : World) (g N tb n le k : Nat) (q : Nat → Int) (s : Value) : Prop where
  row : Box wr N 96 (nr (fun j => if j < k then bel q n j else 0) 16).toArray
  box : Box wr g 98 (tc (.slice (some ⟨tb, 0, none⟩) n n) s (fun m => cq q m n) le)
  upd : Upd (fun k => k = g) w wr
theorem One.put {w wr : World} {g tb n le k : Nat} {q : Nat → Int} {s : Value} (h : One w wr g w.heap.size tb n le k q s) (hg : g ≠ w.heap.size) : One w (wr.setCell ⟨w.heap.size, k, none⟩ (.int .i64 (bel q n k))) g w.heap.size tb n le (k + 1) q s := by
  refine ⟨?_, h.box.other (by exact hg) _, upd_new h.upd (by exact Nat.le_refl _) _⟩
  have := h.row.set k (.int .i64 (bel q n k))
  rw [na_set, na_congr (g := fun j => if j < k + 1 then bel q n j else 0) (fun j _ => ?_)] at this
  · exact this
  · by_cases e : j = k
    · subst e
      rw [if_pos rfl, if_pos (by omega)]
    · rw [if_neg e]
      by_cases h2 : j < k
      · rw [if_pos h2, if_pos (by omega)]
      · rw [if_neg h2, if_neg (by omega)]
structure Two (w wr : World) (g N tb sb n le k : Nat) (q : Nat → Int) : Prop where
  row : Box wr N 96 (nr (fun m => bel q n m + cq q m k) 16).toArray
  box : Box wr g 98 (tc (.slice (some ⟨tb, 0, none⟩) n n) (.slice (some ⟨sb, 0, none⟩) (bel q n 16) (bel q n 16)) (fun m => cq q m n) le)
  syms : ∃ xs, Box wr sb 3 xs ∧ xs.size = bel q n 16 ∧ ∀ j, j < k → 0 ≤ q j → xs[ps q n j]? = some (.int .i64 j)
  upd : Upd (fun k => k = g) w wr
theorem Two.skip {w wr : World} {g N tb sb n le k : Nat} {q : Nat → Int} (h : Two w wr g N tb sb n le k q) (hq : q k = -1) (o : Obj) : Two w (wr.alloc o) g N tb sb n le (k + 1) q := by
  obtain ⟨xs, x1, x2, x3⟩ := h.syms
  refine ⟨?_, h.box.alloc o, ⟨xs, x1.alloc o, x2, fun j hj h0 => x3 j ?_ h0⟩, h.upd.alloc o⟩
  · rw [na_congr (g := fun m => bel q n m + cq q m k) (fun m _ => by rw [cq_not (by rw [hq]; omega)])]
    exact h.row.alloc o
  · by_cases e : j = k
    · subst e; omega
    · omega
theorem Two.put {w wr : World} {g N tb sb n le k m P : Nat} {q : Nat → Int} (h : Two w wr g N tb sb n le k q) (hm : q k = (m : Int)) (hk : k < n) (h15 : m ≤ 15) (hN : w.heap.size ≤ N) (hS : w.heap.size ≤ sb) (hNs : sb ≠ N) (hsg : sb ≠ g) (hNg : g ≠ N)
    (hP : bel q n m + cq q m k = P) (z : Int) (hz : z = ((P + 1 : Nat) : Int)) (o : Obj) :
    Two w (((wr.setCell ⟨sb, P, none⟩ (.int .i64 (k : Int))).setCell ⟨N, m, none⟩ (.int .i64 z)).alloc o).drew g N tb sb n le (k + 1) q := by
  subst hz
  obtain ⟨xs, x1, x2, x3⟩ := h.syms
  have hp : ps q n k = P := (ps_of hm).trans hP
  have hPt : P < bel q n 16 := by
    rw [← hp]
    exact ps_tot hk (by omega) (by omega)
  refine ⟨?_, ?_, ⟨xs.setIfInBounds P (.int .i64 (k : Int)), ?_, by simpa using x2, fun j hj h0 => ?_⟩, ?_⟩
  · have := ((h.row.other (p := ⟨sb, P, none⟩) (by exact hNs.symm) (.int .i64 (k : Int))).set m (.int .i64 ((P + 1 : Nat) : Int))).alloc o
    rw [na_set, na_congr (g := fun m => bel q n m + cq q m (k + 1)) (fun j _ => ?_)] at this
    · exact this
    · by_cases e : j = m
      · subst e
        rw [if_pos rfl, cq_here hm]
        omega
      · rw [if_neg e, cq_not (by rw [hm]; omega)]
  · exact ((h.box.other (p := ⟨sb, P, none⟩) (by exact hsg.symm) _).other (p := ⟨N, m, none⟩) (by exact hNg) _).alloc o
  · exact ((x1.set P _).other (p := ⟨N, m, none⟩) (by exact hNs) _).alloc o
  · rw [Array.getElem?_setIfInBounds]
    by_cases e : j = k
    · subst e
      rw [if_pos hp.symm, if_pos (by omega)]
    · rw [if_neg ?_]
      · exact x3 j (by omega) h0
      · rw [← hp]
        exact fun h2 => ps_ne (by omega) hk h0 (by omega) h2.symm
  · exact upd_drew ((upd_new (upd_new h.upd (by exact hS) _) (by exact hN) _).alloc o)
set_option maxHeartbeats 1000000 in
theorem order25 (g tb n le : Nat) (u : Nat → Nat) (q : Nat → Int) (s : Value) (w : World) (hb : Box w g 98 (tc (.slice (some ⟨tb, 0, none⟩) n n) s (fun m => cq q m n) le)) (hw : Box w tb 107 (wrow u q n)) (hne : tb ≠ g) (hn : n ≤ 100000)
    (hq : ∀ k, k < n → -1 ≤ q k ∧ q k ≤ 15) :
    Calls Tryz.prog 42 #[.pointer (some ⟨g, 0, none⟩)] w fun e w' => e = .returned (.tuple #[]) ∧ ∃ sb, w.heap.size ≤ sb ∧ sb < w'.heap.size ∧
      Box w' g 98 (tc (.slice (some ⟨tb, 0, none⟩) n n) (.slice (some ⟨sb, 0, none⟩) (bel q n 16) (bel q n 16)) (fun m => cq q m n) le) ∧
      (∀ k, k < n → 0 ≤ q k → w'.cell? ⟨sb, ps q n k, none⟩ = some (.int .i64 k)) ∧ Upd (fun k => k = g) w w' := by
  have HB := hide hb
  have HW := hide hw
  have HQ := hide hq
  have hgl := hb.lt
  have htl := hw.lt
  have RA := hide (fun o => tc_range (hb.alloc o))
  clear hb hw hq
  go_enter Tryz.func42, Tryz.ntmps42
  go_wp2_with (first | (refine wpList_load_mid rfl 96 (.tmp 10) rfl g 2 rfl (nr (fun m => cq q m n) 16) _ (unhide RA _) Tryz.underlying96 rfl (info53 _) ?_) | fail)
  go_loopw [3, 12] (fun t i wr => ∃ k : Nat, k ≤ 16 ∧ i = .int .i64 k ∧ t = .int .i64 (bel q n k) ∧ One w wr g w.heap.size tb n le k q s) (fun _ i _ => 16 - (intOf i).toNat)
  case atStart =>
    refine ⟨0, Nat.zero_le _, rfl, rfl, ?_, (unhide HB).alloc _, (Upd.refl _ w).alloc _⟩
    rw [na_congr (g := fun _ => 0) (fun k _ => if_neg (by omega))]
    exact Box.made w 96 _
  case round =>
    obtain ⟨k, hk, rfl, rfl, one⟩ := hrel
    have ONE := hide one
    have hbl := bel_le q n k
    have hcl := cq_le q k n
    by_cases hlt : k < 16
    · have hlt' : (k : Int) < 16 := by omega
      have hix := fun w => index_row (fun m => cq q m n) k hlt w
      have f0 := one.row.free k
      have c0 := (one.row.cell k).trans (na_at _ _ k hlt)
      have hkb : k * n ≤ 16 * 100000 := Nat.mul_le_mul (by omega) hn
      have HBB := hide (show bel q n (k + 1) = bel q n k + cq q k n from rfl)
      clear one RA
      generalize hx : bel q n k = x at *
      have HX := hide hx
      generalize hy : cq q k n = y at *
      clear hx hy
      go_wp2
      go_roundw
      case rel =>
        refine ⟨k + 1, by omega, by go_num, by rw [unhide HBB]; go_num, ?_⟩
        have := (unhide ONE).put (by omega)
        rw [unhide HX] at this
        exact this
      case measure => simp [intOf]; omega
    · obtain rfl : k = 16 := by omega
      have hmk := fun w => make_ints w (bel q n 16) (by omega)
      have hnl : ¬ (16 : Int) < 16 := by omega
      have f1 := one.box.free 1
      have c1 := (one.box.cell 1).trans (tc_1 _ _ _ _)
      have WB := hide ((unhide HW).keep one.upd hne)
      have c0 := (one.box.cell 0).trans (tc_0 _ _ _ _)
      have hgl2 := one.box.lt
      have hgn2 : g ≠ wr.heap.size := by omega
      have hNl := one.row.lt
      have TWO := hide (show Two w ((wr.setCell ⟨g, 1, none⟩ (.slice (some ⟨wr.heap.size, 0, none⟩) (bel q n 16) (bel q n 16))).alloc (.cells (nr (fun _ => 0) (bel q n 16)).toArray 3)) g w.heap.size tb wr.heap.size n le 0 q from by
        refine ⟨?_, ?_, ⟨(nr (fun _ => 0) (bel q n 16)).toArray, ?_, na_size _ _, fun j hj => by omega⟩, (one.upd.setCell (p := ⟨g, 1, none⟩) rfl _).alloc _⟩
        · rw [na_congr (f := fun m => bel q n m + cq q m 0) (g := fun j => if j < 16 then bel q n j else 0) (n := 16) (fun j hj => by rw [if_pos hj]; rfl)]
          exact (one.row.other (p := ⟨g, 1, none⟩) (by exact fun h => by simp at h; omega) _).alloc _
        · have := one.box.set 1 (.slice (some ⟨wr.heap.size, 0, none⟩) (bel q n 16) (bel q n 16))
          rw [tc_set1] at this
          exact this.alloc _
        · have := Box.made (wr.setCell ⟨g, 1, none⟩ (.slice (some ⟨wr.heap.size, 0, none⟩) (bel q n 16) (bel q n 16))) 3 (nr (fun _ => 0) (bel q n 16)).toArray
          rw [show (wr.setCell ⟨g, 1, none⟩ (.slice (some ⟨wr.heap.size, 0, none⟩) (bel q n 16) (bel q n 16))).heap.size = wr.heap.size by simp [World.setCell]] at this
          exact this)
      clear one RA hk hlt
      generalize htot : bel q n 16 = tot at *
      have hsb : w.heap.size < wr.heap.size := hNl
      have HT := hide htot
      generalize hsb0 : wr.heap.size = sb at *
      clear htot
      go_wp2
      go_loopw [33] (fun i wr => ∃ k : Nat, k ≤ n ∧ i = .int .i64 k ∧ Two w wr g w.heap.size tb sb n le k q) (fun i _ => n - (intOf i).toNat)
      case atStart =>
        refine ⟨0, Nat.zero_le _, rfl, ?_⟩
        have := unhide TWO
        exact this
      case round =>
        obtain ⟨k, hk, rfl, two⟩ := hrel
        have TW := hide two
        have WB3 := hide ((unhide HW).keep two.upd hne)
        obtain ⟨xs, x1, x2, x3⟩ := two.syms
        have hsl := x1.lt
        clear c0 c1 f1 TWO ONE
        by_cases hlt : k < n
        · have hlt' : (k : Int) < (n : Int) := by omega
          have c0 := ((unhide WB3).cell (k * 2)).trans (wrow_bits _ _ n k hlt)
          have c1 := ((unhide WB3).cell (k * 2 + 1)).trans (wrow_cnt _ _ n k hlt)
          have hgl3 := two.box.lt
          have hgn3 : g ≠ wr.heap.size := by omega
          obtain ⟨q1, q2⟩ := unhide HQ k hlt
          by_cases hz : q k = -1
          · have HZ := hide hz
            rw [hz] at c1
            clear hz q1 q2 two x1 x2 x3
            go_wp2
            go_roundw
            case rel => exact ⟨k + 1, by omega, by go_num, (unhide TW).skip (unhide HZ) _⟩
            case measure => simp [intOf]; omega
          · obtain ⟨m, hm⟩ : ∃ m : Nat, q k = (m : Int) := ⟨(q k).toNat, by omega⟩
            have hm15 : m ≤ 15 := by omega
            have hm16 : (m : Int) < 16 := by omega
            have HM := hide hm
            have cg := (two.box.cell 1).trans (tc_1 _ _ _ _)
            have cN := (two.row.cell m).trans (na_at _ _ m (by omega))
            have fN := two.row.free m
            have hP := ps_tot hlt (by omega) q2
            have EP := hide (ps_of (n := n) hm)
            rw [ps_of hm, unhide HT] at hP
            rw [unhide HT] at cg
            obtain ⟨y, hy⟩ : ∃ y, xs[bel q n m + cq q m k]? = some y := by
              rw [unhide HT] at x2
              exact ⟨_, Array.getElem?_eq_getElem (by omega)⟩
            have cs := (x1.cell (bel q n m + cq q m k)).trans hy
            have fs := x1.free (bel q n m + cq q m k)
            rw [hm] at c1
            have hNs : sb ≠ w.heap.size := by omega
            have hNg : g ≠ w.heap.size := by omega
            have hNl3 := two.row.lt
            have hNn : w.heap.size ≠ wr.heap.size := by omega
            have hsn : sb ≠ wr.heap.size := by omega
            have hsg : sb ≠ g := by omega
            clear hz q1 q2 two hm hy x1 x2 x3
            generalize hPe : bel q n m + cq q m k = P at *
            have HPE := hide hPe
            have hPt : (P : Int) < (tot : Int) := by omega
            clear hPe
            generalize hNe : w.heap.size = N at *
            go_wp2
            go_region
            go_wp2
            go_roundw
            case rel => exact ⟨k + 1, by omega, by go_num, (unhide TW).put (unhide HM) hlt hm15 (by omega) (by omega) hNs hsg hNg (unhide HPE) _ (by omega) _⟩
            case measure => simp [intOf]; omega
        · obtain rfl : k = n := by omega
          have hnl2 : ¬ (k : Int) < (k : Int) := by omega
          clear hlt
          go_wp2
          go_end0
          refine ⟨rfl, sb, by omega, hsl, ?_, fun j hj h0 => (x1.cell _).trans (x3 j hj h0), two.upd⟩
          have := two.box
          exact this
end Go.Proofs.YtgjpcjnhggcfdaaGreatDoor.Ord

namespace Go.Proofs.YtgjpcjnhggcfdaaGreatDoor.Tre
open Go.ChangeShapes Go.WideShapes Go.ChangeAt Go.RowKit Go.Proofs.YtgjpcjnhggcfdaaGreatDoor.Core Go.Proofs.YtgjpcjnhggcfdaaGreatDoor.Gnd Go.Proofs.YtgjpcjnhggcfdaaGreatDoor.Math Go.Proofs.YtgjpcjnhggcfdaaGreatDoor.Chk Go.Proofs.YtgjpcjnhggcfdaaGreatDoor.Dec Go.Proofs.YtgjpcjnhggcfdaaGreatDoor.Wrd Go.Proofs.YtgjpcjnhggcfdaaGreatDoor.Cou Go.Proofs.YtgjpcjnhggcfdaaGreatDoor.Ord

/-- A tree of the lengths c at block g; all of it lies from lo to hi. -/
def Tr (w : World) (lo hi g : Nat) (c : Nat → Int) (n : Nat) : Prop :=
  lo ≤ g ∧ g < hi ∧ hi ≤ w.heap.size ∧ ∃ tb sb le, lo ≤ tb ∧ tb < hi ∧ lo ≤ sb ∧ sb < hi ∧ le ≤ 15 ∧ 0 < cq (qq c n) le n ∧ (∀ j, j < le → cq (qq c n) j n = 0) ∧
    Box w g 98 (tc (.slice (some ⟨tb, 0, none⟩) n n) (.slice (some ⟨sb, 0, none⟩) (bel (qq c n) n 16) (bel (qq c n) n 16)) (fun m => cq (qq c n) m n) le) ∧
    Box w tb 107 (wrow (uu c n) (qq c n) n) ∧ ∀ k, k < n → 0 ≤ qq c n k → w.cell? ⟨sb, ps (qq c n) n k, none⟩ = some (.int .i64 k)
theorem Tr.keep {S : Nat → Prop} {w w' : World} {lo hi g n : Nat} {c : Nat → Int} (h : Tr w lo hi g c n) (u : Upd S w w') (hs : ∀ k, lo ≤ k → k < hi → ¬ S k) : Tr w' lo hi g c n := by
  obtain ⟨h1, h2, h3, tb, sb, le, a1, a2, a3, a4, a5, a6, a7, a8, a9, a10⟩ := h
  exact ⟨h1, h2, Nat.le_trans h3 u.size, tb, sb, le, a1, a2, a3, a4, a5, a6, a7, a8.keep u (hs g h1 h2), a9.keep u (hs tb a1 a2), fun k hk h0 => (u.cell (p := ⟨sb, _, none⟩) (Nat.lt_of_lt_of_le a4 h3) (hs sb a3 a4)).trans (a10 k hk h0)⟩
theorem Tr.below {w w' : World} {lo hi g n : Nat} {c : Nat → Int} (h : Tr w lo hi g c n) (u : Below w.heap.size w w') : Tr w' lo hi g c n :=
  h.keep (Upd.ofBelow (S := fun _ => False) u) (fun _ _ _ h => h)
theorem tnew_no (v : Value) (n : Nat) (c : Nat → Int) (hl : n ≤ 100000) (h : chk c n ≠ 0) (w : World) (src : Ints .i64 w v n c) :
    Calls Tryz.prog 21 #[v] w fun e w' => e = .returned (.tuple #[.pointer none, .int .i64 (chk c n)]) ∧ Below w.heap.size w w' := by
  have C := hide (check11 v n c hl w src)
  have hb : (chk c n != 0) = true := by simpa using h
  clear src
  generalize chk c n = x at *
  go_enter Tryz.func21, Tryz.ntmps21
  go_wp2_with fail
  refine (unhide C).mono ?_
  rintro e w1 ⟨rfl, bel⟩
  have BEL := hide bel
  clear bel
  go_wp2
  go_ret2
  exact ⟨rfl, unhide BEL⟩
set_option maxHeartbeats 400000 in
theorem tnew (v : Value) (n : Nat) (c : Nat → Int) (hl : n ≤ 100000) (h : chk c n = 0) (w : World) (src : Ints .i64 w v n c) :
    Calls Tryz.prog 21 #[v] w fun e w' => ∃ g, e = .returned (.tuple #[.pointer (some ⟨g, 0, none⟩), .int .i64 0]) ∧ Tr w' w.heap.size w'.heap.size g c n ∧ Below w.heap.size w w' := by
  have C := check11 v n c hl w src
  rw [h] at C
  obtain ⟨hg, _, _⟩ := chk_zero h
  have hq : ∀ k, k < n → -1 ≤ qq c n k ∧ qq c n k ≤ 15 := fun k hk => qq_bd hg hk
  have hex : ∃ k, k < n ∧ 0 ≤ qq c n k := by
    obtain ⟨k, hk, h0⟩ := has_one h
    exact ⟨k, hk, (qq_has hg hk).2 h0⟩
  have CH := hide C
  have HC := hide h
  have HQ := hide hq
  have HEX := hide hex
  have SRC := hide src
  obtain ⟨a, cap, rfl, _⟩ := src
  clear C h hq hex hg
  go_enter Tryz.func21, Tryz.ntmps21
  go_wp2_with fail
  refine (unhide CH).mono ?_
  rintro e w1 ⟨rfl, b1⟩
  have B1 := hide b1
  clear b1
  go_wp2_with fail
  refine (words23 _ n c hl (unhide HC) _ ((unhide SRC).keep (unhide B1))).mono ?_
  rintro e w2 ⟨tb, rfl, ht, bx2, b2⟩
  have hsz := (unhide B1).size
  have B2 := hide (show Below w.heap.size w w2 from (unhide B1).trans (b2.mono hsz))
  have htl := bx2.lt
  have hsz2 := b2.size
  have BX2 := hide bx2
  have ht' : w.heap.size ≤ tb := by omega
  clear b2 bx2 CH SRC
  go_wp2_with fail
  refine (count24 w2.heap.size tb n (uu c n) (qq c n) (.slice none 0 0) _ (Box.made w2 98 _) ((unhide BX2).alloc _) (by omega) hl (unhide HQ) (unhide HEX)).mono ?_
  rintro e w3 ⟨rfl, le, l1, l2, l3, bx3, u3⟩
  have BX3 := hide bx3
  have L2 := hide l2
  have L3 := hide l3
  have W3 := hide (((unhide BX2).alloc _).keep u3 (by omega))
  have s3 : w2.heap.size + 1 ≤ w3.heap.size := by simpa using u3.size
  have B3 := hide (show Below w.heap.size w w3 from ((unhide B2).alloc (by omega) _).trans (u3.below _ (by simp; omega) (fun k hk => by omega)))
  clear bx3 l2 l3 u3
  go_wp2_with fail
  refine (order25 w2.heap.size tb n le (uu c n) (qq c n) (.slice none 0 0) _ (unhide BX3) (unhide W3) (by omega) hl (unhide HQ)).mono ?_
  rintro e w4 ⟨rfl, sb, p1, p2, bx4, sy, u4⟩
  have BX4 := hide bx4
  have SY := hide sy
  have s4 := u4.size
  have W4 := hide ((unhide W3).keep u4 (by omega))
  have B4 := hide (show Below w.heap.size w w4 from (unhide B3).trans (u4.below _ (by omega) (fun k hk => by omega)))
  clear bx4 sy u4
  go_wp2
  go_ret2
  exact ⟨_, rfl, ⟨by omega, by omega, Nat.le_refl _, tb, sb, le, ht', by omega, by omega, by omega, l1, unhide L2, unhide L3, unhide BX4, unhide W4, unhide SY⟩, unhide B4⟩
theorem has_nil (k : Int) (w : World) : Calls Tryz.prog 49 #[.pointer none, .int .i64 k] w fun e w' => e = .returned (.bool false) ∧ w' = w := by
  go_enter Tryz.func49, Tryz.ntmps49
  go_wp2
  go_ret
  exact ⟨rfl, rfl⟩
/-- Has the symbol a code? -/
def hasB (c : Nat → Int) (n : Nat) (k : Int) : Bool := decide (0 ≤ k ∧ k < (n : Int) ∧ c k.toNat ≠ 0)
theorem has33 (lo hi g n : Nat) (c : Nat → Int) (hg : Rng c n) (k : Int) (w : World) (h : Tr w lo hi g c n) : Calls Tryz.prog 49 #[.pointer (some ⟨g, 0, none⟩), .int .i64 k] w fun e w' => e = .returned (.bool (hasB c n k)) ∧ w' = w := by
  obtain ⟨h1, h2, h3, tb, sb, le, a1, a2, a3, a4, a5, a6, a7, a8, a9, a10⟩ := h
  have c0 := (a8.cell 0).trans (tc_0 _ _ _ _)
  unfold hasB
  by_cases hk0 : 0 ≤ k
  · by_cases hk1 : k < (n : Int)
    · obtain ⟨m, rfl⟩ : ∃ m : Nat, k = (m : Int) := ⟨k.toNat, by omega⟩
      have c1 := (a9.cell (m * 2 + 1)).trans (wrow_cnt _ _ n m (by omega))
      have hq := qq_has hg (show m < n by omega)
      have hb := qq_bd hg (show m < n by omega)
      have e : (decide ((0 : Int) ≤ (m : Int) ∧ (m : Int) < (n : Int) ∧ c ((m : Int).toNat) ≠ 0)) = (qq c n m != -1) := by
        have hi : (qq c n m != -1) = true ↔ c m ≠ 0 := by
          rw [← hq]
          simp
          omega
        rw [Bool.eq_iff_iff, hi]
        simp
        intro _
        omega
      rw [e]
      clear a8 a9 a10 a6 a7 hq e
      generalize qq c n m = z at *
      go_enter Tryz.func49, Tryz.ntmps49
      go_wp2
      go_ret
      exact ⟨rfl, rfl⟩
    · clear a8 a9 a10 a6 a7
      go_enter Tryz.func49, Tryz.ntmps49
      go_wp2
      go_ret
      refine ⟨ret_bool ?_, rfl⟩
      simp
      omega
  · clear a8 a9 a10 a6 a7
    go_enter Tryz.func49, Tryz.ntmps49
    go_wp2
    go_ret
    refine ⟨ret_bool ?_, rfl⟩
    simp
    omega
end Go.Proofs.YtgjpcjnhggcfdaaGreatDoor.Tre

namespace Go.Proofs.YtgjpcjnhggcfdaaGreatDoor.Trr
open Go.ChangeShapes Go.WideShapes Go.ChangeAt Go.RowKit Go.Proofs.YtgjpcjnhggcfdaaGreatDoor.Core Go.Proofs.YtgjpcjnhggcfdaaGreatDoor.Math Go.Proofs.YtgjpcjnhggcfdaaGreatDoor.Rvm Go.Proofs.YtgjpcjnhggcfdaaGreatDoor.Rev Go.Proofs.YtgjpcjnhggcfdaaGreatDoor.Dec Go.Proofs.YtgjpcjnhggcfdaaGreatDoor.Wrd Go.Proofs.YtgjpcjnhggcfdaaGreatDoor.Cou Go.Proofs.YtgjpcjnhggcfdaaGreatDoor.Ord Go.Proofs.YtgjpcjnhggcfdaaGreatDoor.Tre Go.Proofs.YtgjpcjnhggcfdaaGreatDoor.Bitin Go.Proofs.YtgjpcjnhggcfdaaGreatDoor.Eyes

/-- What Read answers, and what state the reader is in, of symbol k by L bits. -/
def outV (bl i L k : Nat) : Int := if i + L ≤ 8 * bl then (k : Int) else 0
def outE (bl i L : Nat) : Int := if i + L ≤ 8 * bl then 0 else 2
def outS (bl i L : Nat) : Option Nat := if i + L ≤ 8 * bl then some (i + L) else none
theorem or_bit2 (x b : Nat) (hb : b ≤ 1) (hx : x ≤ 1000000) : bits .or .i64 ((x : Int) * 2) (b : Int) = ((2 * x + b : Nat) : Int) := by
  have e : (x : Int) * 2 = ((x * 2 : Nat) : Int) := by omega
  rw [e]
  show IntKind.i64.wrap ((BitVec.ofInt 64 ((x * 2 : Nat) : Int) ||| BitVec.ofInt 64 (b : Int)).toNat : Int) = _
  rw [BitVec.toNat_or, ofInt_u64 (x * 2) (by omega), ofInt_u64 b (by omega), nat_join 1 (x * 2) b (by omega) (by omega)]
  rw [IntKind.wrap_i64]
  omega
end Go.Proofs.YtgjpcjnhggcfdaaGreatDoor.Trr
