/- Contracts: code.Codes. Conditions: the slice reads as integers, and they are few. -/
import Derived.Test.YtgjpcjnhggcfdaaDoorFst
namespace Go.Proofs.YtgjpcjnhggcfdaaDoor.Cod
open Go.ChangeShapes Go.WideShapes Go.ChangeAt Go.RowKit Go.Proofs.YtgjpcjnhggcfdaaDoor.Core Go.Proofs.YtgjpcjnhggcfdaaDoor.Gnd Go.Proofs.YtgjpcjnhggcfdaaDoor.Math Go.Proofs.YtgjpcjnhggcfdaaDoor.Each Go.Proofs.YtgjpcjnhggcfdaaDoor.One Go.Proofs.YtgjpcjnhggcfdaaDoor.Chk Go.Proofs.YtgjpcjnhggcfdaaDoor.Fst

/-- Numbers in a block. -/
def row (f : Nat → Nat) (n : Nat) : Array Value := ((List.range n).map fun k => Value.int .u32 (f k)).toArray
theorem row_size (f : Nat → Nat) (n : Nat) : (row f n).size = n := by simp [row]
theorem row_at (f : Nat → Nat) (n k : Nat) (h : k < n) : (row f n)[k]? = some (.int .u32 (f k)) := by
  simp [row, h]
theorem row_ext {xs : Array Value} {f : Nat → Nat} {n : Nat} (hs : xs.size = n) (h : ∀ j, j < n → xs[j]? = some (.int .u32 (f j))) : xs = row f n := by
  apply Array.ext_getElem?
  intro j
  by_cases hj : j < n
  · rw [h j hj, row_at _ _ _ hj]
  · rw [Array.getElem?_eq_none (by omega), Array.getElem?_eq_none (by rw [row_size]; omega)]
theorem row_set (f : Nat → Nat) (n k z : Nat) : (row f n).setIfInBounds k (.int .u32 z) = row (fun j => if j = k then z else f j) n := by
  refine row_ext (by simp [row_size]) fun j hj => ?_
  rw [Array.getElem?_setIfInBounds, row_at _ _ _ hj, row_size]
  by_cases e : k = j
  · subst e; simp [hj]
  · have : ¬ j = k := fun h => e h.symm
    simp [e, this]
theorem row_congr {f g : Nat → Nat} {n : Nat} (h : ∀ k, k < n → f k = g k) : row f n = row g n :=
  row_ext (row_size _ _) fun j hj => by rw [row_at _ _ _ hj, h j hj]
theorem row_made (n : Nat) : madeCells #[.int .u32 0] n = row (fun _ => 0) n := by
  refine row_ext (by simp [size_madeCells]) fun j hj => ?_
  simp [madeCells, hj, Nat.mod_one]
theorem info30 : (Tryd.prog.info? 22).map (fun i => (i.zero, i.size, i.bytes)) = some (some (.int .u32 0), 1, 4) := by kernel_rfl
theorem make_row (w : World) (n : Nat) (hn : n ≤ 1000000) : (Instr.makeSlice 106 (.int .i64 n) (.int .i64 n)).run Tryd.prog w = .ok (.slice (some ⟨w.heap.size, 0, none⟩) n n) (w.alloc (.cells (row (fun _ => 0) n) 22)) := by
  obtain ⟨i0, hi, hz0, hz1, hz2⟩ := info_parts info30
  have := run_make (P := Tryd.prog) w 106 22 i0 (.int .u32 0) Tryd.underlying106 hi hz0 .i64 .i64 n n (by omega) (by omega) (by rw [hz2]; omega) (by omega)
  rw [hz1] at this
  rw [this]
  simp [Value.cells, row_made]
theorem put17 (i m len cap g g2 r : Nat) (f d : Nat → Nat) (w : World) (b1 : Box w g 120 (arr f)) (b2 : Box w g2 106 #[.slice (some ⟨r, 0, none⟩) len cap]) (b3 : Box w r 22 (row d len)) (hi : i < len) (hm : m ≤ 15) (hf : f m ≤ 100000)
    (hgr : g ≠ r) :
    Calls Tryd.prog 66 (#[.int .i64 i, .int .i64 m] ++ #[.pointer (some ⟨g, 0, none⟩), .pointer (some ⟨g2, 0, none⟩)]) w fun e w' =>
      e = .returned (.tuple #[]) ∧ w' = ((w.setCell ⟨r, i, none⟩ (.int .u32 (f m))).drew.setCell ⟨g, m, none⟩ (.int .u32 ((f m + 1 : Nat) : Int))) := by
  have c1 : w.cell? ⟨g, m, none⟩ = some (.int .u32 (f m)) := (b1.cell m).trans (arr_at f m (by omega))
  have c2 : w.cell? ⟨g2, 0, none⟩ = some (.slice (some ⟨r, 0, none⟩) len cap) := b2.cell 0
  have c3 : w.cell? ⟨r, i, none⟩ = some (.int .u32 (d i)) := (b3.cell i).trans (row_at d len i hi)
  have f3 := b3.free i
  have b4 := b1.other (p := ⟨r, i, none⟩) hgr (.int .u32 (f m))
  have c4 : ∀ u, (w.setCell ⟨r, i, none⟩ u).cell? ⟨g, m, none⟩ = some (.int .u32 (f m)) := fun u => ((b1.other (p := ⟨r, i, none⟩) hgr u).cell m).trans (arr_at f m (by omega))
  have f4 : ∀ u, (w.setCell ⟨r, i, none⟩ u).frozen? ⟨g, m, none⟩ = false := fun u => (b1.other (p := ⟨r, i, none⟩) hgr u).free m
  have hii : (i : Int) < len := by omega
  clear b1 b2 b3 b4
  go_enter Tryd.func66, Tryd.ntmps66
  go_wp2
  go_region
  go_wp2
  go_end0
  exact ⟨rfl, by simp; rfl⟩
/-- What Codes has made behind the first i lengths. -/
def InvCod (w : World) (n : Nat) (c : Nat → Int) (len i : Nat) (wr : World) : Prop :=
  Box wr n 120 (arr (fun m => fst c len m + cnt c m i)) ∧ Box wr (n + 1) 22 (row (fun k => if k < i then cod c len k else 0) len) ∧ Box wr (n + 1 + 1) 106 #[.slice (some ⟨n + 1, 0, none⟩) len len] ∧ Below w.heap.size w wr
theorem InvCod.next {w wr : World} {n len i m : Nat} {c : Nat → Int} (h : InvCod w n c len i wr) (hn : w.heap.size ≤ n) (hc : c i = (m : Int)) (h0 : m ≠ 0) (hm : m ≤ 15) :
    InvCod w n c len (i + 1) ((wr.setCell ⟨n + 1, i, none⟩ (.int .u32 ((fst c len m + cnt c m i : Nat) : Int))).drew.setCell ⟨n, m, none⟩ (.int .u32 ((fst c len m + cnt c m i + 1 : Nat) : Int))) := by
  obtain ⟨h1, h2, h3, h4⟩ := h
  refine ⟨?_, ?_, ?_, (h4.setCell (p := ⟨n + 1, i, none⟩) (by show w.heap.size ≤ n + 1; omega) _).drew.setCell (p := ⟨n, m, none⟩) hn _⟩
  · have h5 : Box (wr.setCell ⟨n + 1, i, none⟩ (.int .u32 ((fst c len m + cnt c m i : Nat) : Int))).drew n 120 (arr (fun m => fst c len m + cnt c m i)) := h1.other (p := ⟨n + 1, i, none⟩) (by simp) _
    have h6 := h5.set m (.int .u32 ((fst c len m + cnt c m i + 1 : Nat) : Int))
    rw [arr_set _ _ _ (by omega)] at h6
    rw [arr_congr (g := fun j => if j = m then fst c len m + cnt c m i + 1 else fst c len j + cnt c j i) (fun k _ => ?_)]
    · exact h6
    · have h7 := cnt_next c i m hc h0 k
      by_cases e : k = m
      · subst e
        rw [if_pos rfl] at h7 ⊢
        omega
      · rw [if_neg e] at h7 ⊢
        omega
  · have h5 : Box (wr.setCell ⟨n + 1, i, none⟩ (.int .u32 ((fst c len m + cnt c m i : Nat) : Int))).drew (n + 1) 22 ((row (fun k => if k < i then cod c len k else 0) len).setIfInBounds i (.int .u32 ((fst c len m + cnt c m i : Nat) : Int))) := h2.set i _
    rw [row_set] at h5
    have h6 := h5.other (p := ⟨n, m, none⟩) (by simp) (.int .u32 ((fst c len m + cnt c m i + 1 : Nat) : Int))
    rw [row_congr (g := fun j => if j = i then fst c len m + cnt c m i else if j < i then cod c len j else 0) (fun k _ => ?_)]
    · exact h6
    · by_cases e : k = i
      · subst e
        rw [if_pos rfl, if_pos (by omega), cod_of m hc h0]
      · rw [if_neg e]
        by_cases e2 : k < i
        · rw [if_pos e2, if_pos (by omega)]
        · rw [if_neg e2, if_neg (by omega)]
  · have h5 : Box (wr.setCell ⟨n + 1, i, none⟩ (.int .u32 ((fst c len m + cnt c m i : Nat) : Int))).drew (n + 1 + 1) 106 #[.slice (some ⟨n + 1, 0, none⟩) len len] := h3.other (p := ⟨n + 1, i, none⟩) (by simp) _
    exact h5.other (p := ⟨n, m, none⟩) (by simp; omega) _
theorem InvCod.skip {w wr : World} {n len i : Nat} {c : Nat → Int} (h : InvCod w n c len i wr) (hc : c i = 0) : InvCod w n c len (i + 1) wr := by
  obtain ⟨h1, h2, h3, h4⟩ := h
  refine ⟨?_, ?_, h3, h4⟩
  · rw [arr_congr (g := fun m => fst c len m + cnt c m i) (fun k _ => by rw [cnt_skip c i hc k])]
    exact h1
  · rw [row_congr (g := fun k => if k < i then cod c len k else 0) (fun k _ => ?_)]
    · exact h2
    · by_cases e : k = i
      · subst e
        rw [if_pos (by omega), if_neg (by omega)]
        unfold cod
        rw [if_pos hc]
      · by_cases e2 : k < i
        · rw [if_pos e2, if_pos (by omega)]
        · rw [if_neg e2, if_neg (by omega)]
theorem InvCod.ints {w wr : World} {n len : Nat} {c : Nat → Int} (h : InvCod w n c len len wr) : Ints .u32 wr (.slice (some ⟨n + 1, 0, none⟩) len len) len (fun k => (cod c len k : Int)) :=
  ⟨_, _, rfl, fun i hi => ⟨n + 1, 0, rfl, by
    rw [h.2.1.cell, Nat.zero_add, row_at _ _ _ hi, if_pos hi]⟩⟩
theorem codes_no (v : Value) (len : Nat) (c : Nat → Int) (hl : len ≤ 100000) (h : chk c len ≠ 0) (w : World) (src : Ints .i64 w v len c) :
    Calls Tryd.prog 52 #[v] w fun e w' => e = .returned (.slice none 0 0) ∧ Below w.heap.size w w' := by
  have SRC := hide src
  clear src
  go_enter Tryd.func52, Tryd.ntmps52
  go_wp2_with (go_at_call 28; refine (check11 v len c hl _ (unhide SRC)).mono ?_; rintro e w1 ⟨rfl, bel⟩; have BEL := hide bel; clear bel)
  go_ret
  exact ⟨rfl, unhide BEL⟩
set_option maxHeartbeats 1000000 in
theorem codes_new (v : Value) (len : Nat) (c : Nat → Int) (hl : len ≤ 100000) (h : chk c len = 0) (w : World) (src : Ints .i64 w v len c) :
    Calls Tryd.prog 52 #[v] w fun e w' => ∃ b, e = .returned (.slice (some ⟨b, 0, none⟩) len len) ∧ w.heap.size ≤ b ∧ Ints .u32 w' (.slice (some ⟨b, 0, none⟩) len len) len (fun k => (cod c len k : Int)) ∧ Below w.heap.size w w' := by
  have eg : ∀ args w, (callFunc 66 args).run Tryd.prog w = .ok (.enter 66 args) w := enters_of Tryd.func66 (by kernel_rfl) rfl
  obtain ⟨hg, _, hk⟩ := chk_zero h
  have HG := hide hg
  have HK := hide hk
  have SRC := hide src
  have hmk := fun w => make_row w len (by omega)
  obtain ⟨a, cap, rfl, _⟩ := src
  clear hg hk
  go_enter Tryd.func52, Tryd.ntmps52
  go_wp2_with fail
  refine (check11 _ len c hl _ (unhide SRC)).mono ?_
  rw [h]
  rintro e w1 ⟨rfl, b1⟩
  have B1 := hide b1
  clear b1 h
  go_wp2_with fail
  refine (fst16 _ len c hl (unhide HG) (unhide HK) _ ((unhide SRC).keep (unhide B1))).mono ?_
  rintro e w2 ⟨rfl, b2⟩
  have B2 := hide (show Below w.heap.size w w2 from (unhide B1).trans (b2.mono (unhide B1).size))
  clear b2 B1
  go_wp2_with (first | (refine wpList_store_row rfl 120 (.tmp 3) (.tmp 9) rfl w2.heap.size (arr (fst c len)) rfl rfl 120 (arr (fun _ => 0)) (Box.made w2 120 _) (info38 _) (by rw [arr_size, arr_size]) (arr_ones _) ?_) | fail)
  have hst : ∀ x : Array Value, x = arr (fun _ => 0) → InvCod w w2.heap.size c len 0 ((((w2.alloc (.cells x 120)).setRow w2.heap.size (arr (fst c len))).alloc (.cells (row (fun _ => 0) len) 22)).alloc (.cells #[.slice (some ⟨w2.heap.size + 1, 0, none⟩) len len] 106)) := by
    intro x hx
    subst hx
    have h1 := box_row (Box.made w2 120 (arr (fun _ => 0))) (arr (fst c len))
    have s1 : ((w2.alloc (.cells (arr (fun _ => 0)) 120)).setRow w2.heap.size (arr (fst c len))).heap.size = w2.heap.size + 1 := by simp
    have h2 := Box.made ((w2.alloc (.cells (arr (fun _ => 0)) 120)).setRow w2.heap.size (arr (fst c len))) 22 (row (fun _ => 0) len)
    rw [s1] at h2
    have s2 : (((w2.alloc (.cells (arr (fun _ => 0)) 120)).setRow w2.heap.size (arr (fst c len))).alloc (.cells (row (fun _ => 0) len) 22)).heap.size = w2.heap.size + 1 + 1 := by simp
    have h3 := Box.made (((w2.alloc (.cells (arr (fun _ => 0)) 120)).setRow w2.heap.size (arr (fst c len))).alloc (.cells (row (fun _ => 0) len) 22)) 106 #[.slice (some ⟨w2.heap.size + 1, 0, none⟩) len len]
    rw [s2] at h3
    have sz := (unhide B2).size
    refine ⟨?_, ?_, h3, ((below_setRow ((unhide B2).alloc sz _) sz _).alloc (by omega) _).alloc (by omega) _⟩
    · rw [arr_congr (g := fst c len) (fun k _ => rfl)]
      exact (h1.alloc _).alloc _
    · rw [row_congr (g := fun _ => 0) (fun k _ => if_neg (Nat.not_lt_zero _))]
      exact h2.alloc _
  refine (each14 66 eg _ _ len c hl (InvCod w w2.heap.size c len) _ (fun i wr h => (unhide SRC).keep h.2.2.2) (hst _ rfl) (fun i wr _ hc h => h.skip hc) ?_).mono ?_
  · intro i wr hi hc h
    have h1 := unhide HG i hi
    obtain ⟨m, hcm⟩ : ∃ m : Nat, c i = (m : Int) := ⟨(c i).toNat, by omega⟩
    have hm0 : m ≠ 0 := by omega
    have h2 := top_cap (unhide HG) (unhide HK) m (by omega)
    have h3 := cnt_lt c m hi hcm hm0
    rw [hcm]
    refine (put17 i m len len _ _ _ _ _ wr h.1 h.2.2.1 h.2.1 hi (by omega) (by omega) (by omega)).mono fun e w' ⟨e1, e2⟩ => ⟨e1, ?_⟩
    rw [e2]
    exact h.next (unhide B2).size hcm hm0 (by omega)
  · rintro e w3 ⟨rfl, h1⟩
    have c1 : w3.cell? ⟨w2.heap.size + 1 + 1, 0, none⟩ = some (.slice (some ⟨w2.heap.size + 1, 0, none⟩) len len) := h1.2.2.1.cell 0
    have H1 := hide h1
    clear h1 hst
    go_wp2
    go_ret
    exact ⟨_, rfl, by have := (unhide B2).size; omega, (unhide H1).ints, (unhide H1).2.2.2⟩
theorem codes10 (v : Value) (len : Nat) (c : Nat → Int) (hl : len ≤ 100000) (h : chk c len = 0) (w : World) (src : Ints .i64 w v len c) :
    Calls Tryd.prog 52 #[v] w fun e w' => ∃ v', e = .returned v' ∧ Ints .u32 w' v' len (fun k => (cod c len k : Int)) ∧ Below w.heap.size w w' :=
  (codes_new v len c hl h w src).mono fun _ _ ⟨_, e, _, h2, h3⟩ => ⟨_, e, h2, h3⟩
end Go.Proofs.YtgjpcjnhggcfdaaDoor.Cod
