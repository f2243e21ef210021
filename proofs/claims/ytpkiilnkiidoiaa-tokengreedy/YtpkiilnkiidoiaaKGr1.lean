/- Contracts: places.two, places.before, places.enter, token.alike. Conditions: at most a million pixels; the place is one. -/
import Derived.Test.YtpkiilnkiidoiaaKGr0
import Derived.Deep.RegionWith
namespace Go.Proofs.Ytpkiilnkiidoiaa.KGr1
set_option linter.unusedVariables false
open Go.ChangeShapes Go.WideShapes Go.ChangeAt Go.RowKit Go.Maps Go.Proofs.Ytpkiilnkiidoiaa.Core Go.Proofs.Ytpkiilnkiidoiaa.CNum Go.Proofs.Ytpkiilnkiidoiaa.KNum Go.Proofs.Ytpkiilnkiidoiaa.KMem Go.Proofs.Ytpkiilnkiidoiaa.KFit Go.Proofs.Ytpkiilnkiidoiaa.KGr0

/-- Places in a block. -/
def irow (f : Nat → Int) (n : Nat) : Array Value := ((List.range n).map fun k => Value.int .i64 (f k)).toArray
theorem irow_size (f : Nat → Int) (n : Nat) : (irow f n).size = n := by simp [irow]
theorem irow_at (f : Nat → Int) (n k : Nat) (h : k < n) : (irow f n)[k]? = some (.int .i64 (f k)) := by simp [irow, h]
theorem irow_ext {xs : Array Value} {f : Nat → Int} {n : Nat} (hs : xs.size = n) (h : ∀ j, j < n → xs[j]? = some (.int .i64 (f j))) : xs = irow f n := by
  apply Array.ext_getElem?
  intro j
  by_cases hj : j < n
  · rw [h j hj, irow_at _ _ _ hj]
  · rw [Array.getElem?_eq_none (by omega), Array.getElem?_eq_none (by rw [irow_size]; omega)]
def iupd (f : Nat → Int) (k : Nat) (z : Int) : Nat → Int := fun j => if j = k then z else f j
theorem irow_set (f : Nat → Int) (n k : Nat) (z : Int) : (irow f n).setIfInBounds k (.int .i64 z) = irow (iupd f k z) n := by
  refine irow_ext (by simp [irow_size]) fun j hj => ?_
  rw [Array.getElem?_setIfInBounds, irow_at _ _ _ hj, irow_size]
  unfold iupd
  by_cases e : k = j
  · subst e; simp [hj]
  · have : ¬ j = k := fun h => e h.symm
    simp [e, this]
theorem irow_made (n : Nat) : madeCells #[.int .i64 0] n = irow (fun _ => 0) n := by
  refine irow_ext (by simp [size_madeCells]) fun j hj => ?_
  simp [madeCells, hj, Nat.mod_one]
theorem info3 : (Try.prog.info? 3).map (fun i => (i.zero, i.size, i.bytes)) = some (some (.int .i64 0), 1, 8) := by kernel_rfl
theorem make_irow (w : World) (n : Nat) (hn : n ≤ 1000000) : (Instr.makeSlice 63 (.int .i64 n) (.int .i64 n)).run Try.prog w = .ok (.slice (some ⟨w.heap.size, 0, none⟩) n n) (w.alloc (.cells (irow (fun _ => 0) n) 3)) := by
  obtain ⟨i0, hi, hz0, hz1, hz2⟩ := info_parts info3
  have := run_make (P := Try.prog) w 63 3 i0 (.int .i64 0) Try.underlying63 hi hz0 .i64 .i64 n n (by omega) (by omega) (by rw [hz2]; omega) (by omega)
  rw [hz1] at this
  rw [this]
  simp [Value.cells, irow_made]
set_option maxHeartbeats 1000000 in
theorem two38 {g b off n c k x y : Nat} {w : World} {m1 m2 : Value} (h0 : w.cell? ⟨g, 0, none⟩ = some (.slice (some ⟨b, off, none⟩) n c)) (hk : k + 1 < n) (hn : n ≤ 1000000) (hx : w.cell? ⟨b, off + k, none⟩ = some (.int .u32 x)) (hy : w.cell? ⟨b, off + (k + 1), none⟩ = some (.int .u32 y)) :
    Calls Try.prog 38 #[.pointer (some ⟨g, 0, none⟩), .int .i64 k] w fun e w' => e = .returned (.agg #[.int .u32 x, .int .u32 y]) ∧ Below w.heap.size w w' := by
  have i1 : (k : Int) < (n : Int) := by omega
  have i2 : (k : Int) + 1 < (n : Int) := by omega
  have i3 : (n : Int) ≤ 1000000 := by omega
  have gl : g < w.heap.size := lt_of_cell h0
  have bl : b < w.heap.size := lt_of_cell hx
  go_enter Try.func38, Try.ntmps38
  go_wp2
  go_region
  all_goals go_wp2
  all_goals refine bodyPost_ret (results_cell_row rfl _ _ w.heap.size 83 #[.int .u32 x, .int .u32 y] (0, 0) _ rfl (Box.made w 83 _) Try.underlying83 rfl (by kernel_rfl)) rfl ⟨rfl, ((Below.refl _ _).alloc (Nat.le_refl _) _).drew⟩
set_option maxHeartbeats 2000000 in
/-- How many pixels are alike. -/
theorem alike37 {B : Nat} {w : World} {a a' : Option Addr} {l l' : List Nat} {n n' : Nat} (c c' : Nat) (h : Lst B w a l) (h' : Lst B w a' l') (hn : n = l.length) (hn' : n' = l'.length) (hl : n ≤ n') (hl2 : n' ≤ 1000000) (hB : B ≤ w.heap.size) :
    Calls Try.prog 37 #[.slice a n c, .slice a' n' c'] w fun e w' => (∃ q : Nat, e = .returned (.int .i64 q) ∧ q ≤ n ∧ ∀ j, j < q → l.getD j 0 = l'.getD j 0) ∧ Below w.heap.size w w' := by
  have L := hide h
  have L' := hide h'
  have HL := hide (And.intro hn hn')
  clear h h' hn hn'
  go_enter Try.func37, Try.ntmps37
  go_wp2
  go_loopw [5] (fun v wr => ∃ k : Nat, v = .int .i64 k ∧ k ≤ n ∧ Below w.heap.size w wr ∧ ∀ j, j < k → l.getD j 0 = l'.getD j 0) (fun v _ => n - (intOf v).toNat)
  case atStart => exact ⟨0, rfl, by omega, Below.refl _ _, fun j hj => by omega⟩
  case round =>
    obtain ⟨k, rfl, hk, bel, eqs⟩ := hrel
    have BB := hide bel
    have EE := hide eqs
    clear bel eqs
    by_cases hlt : k < n
    · have hlt' : (k : Int) < (n : Int) := by omega
      have hlt2 : (k : Int) < (n' : Int) := by omega
      have s1 := some_getD (l := l) (i := k) (by have := (unhide HL).1; omega)
      have s2 := some_getD (l := l') (i := k) (by have := (unhide HL).2; omega)
      obtain ⟨b, off, rfl, hb, c0⟩ := (unhide L) k _ s1
      obtain ⟨b', off', rfl, hb', c0'⟩ := (unhide L') k _ s2
      have c1 := ((unhide BB).cell (p := ⟨b, off + k, none⟩) (show b < w.heap.size by omega)).trans c0
      have c2 := ((unhide BB).cell (p := ⟨b', off' + k, none⟩) (show b' < w.heap.size by omega)).trans c0'
      clear c0 c0' s1 s2
      generalize hx : l.getD k 0 = x at *
      generalize hy : l'.getD k 0 = y at *
      have HX := hide (And.intro hx hy)
      clear hx hy
      by_cases hxy : x = y
      · have hne : ((x : Int) == (y : Int)) = true := by rw [hxy]; simp
        have HE := hide hxy
        clear hxy
        go_wp2
        go_quiet (fail)
        go_wp2
        go_roundw
        case rel => exact ⟨k + 1, by go_num, by omega, bel_drN (unhide BB) _, fun j hj => by
          by_cases e : j = k
          · rw [e, (unhide HX).1, (unhide HX).2, unhide HE]
          · exact unhide EE j (by omega)⟩
        case measure => simp [intOf]; omega
      · have hne : ((x : Int) == (y : Int)) = false := by rw [beq_eq_false_iff_ne]; omega
        clear hxy
        go_wp2
        go_quiet (fail)
        go_wp2
        go_ret
        exact ⟨⟨k, rfl, hk, unhide EE⟩, bel_drN (unhide BB) _⟩
    · have hlt' : decide ((k : Int) < (n : Int)) = false := decide_eq_false (by omega)
      have hlt2 : decide (k < n) = false := decide_eq_false (by omega)
      go_wp2
      go_quiet (fail)
      go_wp2
      go_ret
      exact ⟨⟨k, rfl, hk, unhide EE⟩, bel_drN (unhide BB) _⟩
/-- Places in memory: the pixels, the map of the last ones, those ahead. -/
structure Gr (B : Nat) (w : World) (g mb ab n at1 : Nat) (a : Option Addr) (c : Nat) : Prop where
  box : Box w g 65 #[.slice a n c, .map (some mb), .slice (some ⟨ab, 0, none⟩) n n]
  map : ∃ cnt D, cnt ≤ at1 ∧ w.ownsMap Try.prog 83 (plainElem Try.prog 3) mb cnt D ∧ Lo D at1
  row : ∃ F, Box w ab 3 (irow F n) ∧ ∀ i, i < at1 → -1 ≤ F i ∧ F i < i
  ne : g ≠ ab
  ne2 : mb ≠ ab
  g0 : B ≤ g
  a0 : B ≤ ab
  m0 : B ≤ mb
theorem Gr.keep {B g mb ab n at1 c : Nat} {w w' : World} {a : Option Addr} (h : Gr B w g mb ab n at1 a c) (u : Below w.heap.size w w') : Gr B w' g mb ab n at1 a c := by
  obtain ⟨cnt, D, h1, h2, h3⟩ := h.map
  obtain ⟨F, f1, f2⟩ := h.row
  exact ⟨h.box.below u h.box.lt, ⟨cnt, D, h1, h2.kept (row := none) ⟨u.os, u.tape, u.output, u.size, fun k hk _ => u.block k hk⟩ (by simp), h3⟩, ⟨F, f1.below u f1.lt, f2⟩, h.ne, h.ne2, h.g0, h.a0, h.m0⟩
theorem Gr.lt {B g mb ab n at1 c : Nat} {w : World} {a : Option Addr} (h : Gr B w g mb ab n at1 a c) : B ≤ w.heap.size := by have := h.g0; have := h.box.lt; omega
set_option maxHeartbeats 2000000 in
theorem before36 {B g mb ab b off n c k at1 x y : Nat} {w : World} (h : Gr B w g mb ab n at1 (some ⟨b, off, none⟩) c) (hk : k + 1 < n) (hn : n ≤ 1000000) (hx : w.cell? ⟨b, off + k, none⟩ = some (.int .u32 x)) (hy : w.cell? ⟨b, off + (k + 1), none⟩ = some (.int .u32 y)) (hx0 : x < 4294967296) (hy0 : y < 4294967296) (ha : at1 ≤ 1000000) :
    Calls Try.prog 36 #[.pointer (some ⟨g, 0, none⟩), .int .i64 k] w fun e w' => (∃ z : Int, e = .returned (.int .i64 z) ∧ -1 ≤ z ∧ z < at1) ∧ Below w.heap.size w w' := by
  have c1 : w.cell? ⟨g, 1, none⟩ = some (.map (some mb)) := (h.box.cell 1).trans rfl
  have gl := h.box.lt
  obtain ⟨cnt, D, h1, h2, h3⟩ := h.map
  have TW := hide (fun (wz : World) (u : Below w.heap.size w wz) => two38 (m1 := undef) (m2 := undef) ((u.cell (p := ⟨g, 0, none⟩) gl).trans ((h.box.cell 0).trans rfl)) hk hn ((u.cell (p := ⟨b, off + k, none⟩) (lt_of_cell hx)).trans hx) ((u.cell (p := ⟨b, off + (k + 1), none⟩) (lt_of_cell hy)).trans hy))
  have MP := hide (fun (wz : World) (u : Below w.heap.size w wz) => World.ownsMap.kept (w' := wz) (row := none) h2 ⟨u.os, u.tape, u.output, u.size, fun k hk _ => u.block k hk⟩ (by simp))
  have H3 := hide h3
  have X0 := hide (And.intro hx0 hy0)
  clear h h1 h2 h3 hx hy hx0 hy0
  go_enter Try.func36, Try.ntmps36
  go_wp2
  go_region_with (go_at_call 38; (with_reducible refine Calls.mono (unhide TW _ (bel_dr (Below.refl _ _))) ?_); (rintro e w1 ⟨rfl, B1⟩); obtain ⟨z, bb, hrun, hzb⟩ := look83 (unhide MP w1 ⟨B1.os, B1.tape, B1.output, B1.size, B1.block⟩) (unhide H3) x y (unhide X0).1 (unhide X0).2; have HZ := hide hzb; have U1 := hide (show Below w.heap.size w w1 from ⟨B1.os, B1.tape, B1.output, B1.size, B1.block⟩); have c11 : w1.cell? ⟨g, 1, none⟩ = some (.map (some mb)) := (B1.cell gl).trans c1; clear B1 hzb)
  all_goals (have u1 := hide (unhide U1); clear MP TW c1 c11 hrun)
  all_goals cases bb
  all_goals go_wp2
  all_goals go_ret
  all_goals first
    | exact ⟨⟨-1, rfl, by omega, by omega⟩, unhide u1⟩
    | exact ⟨⟨z, rfl, by have := (unhide HZ) trivial; omega, by have := (unhide HZ) trivial; omega⟩, unhide u1⟩
end Go.Proofs.Ytpkiilnkiidoiaa.KGr1
