/- Contract: a tree's count: how many symbols have a code of so many bits, and the least of these. Conditions: the tree lies in memory, its words are few, one has a code. -/
import Derived.Test.YtgjpcjnhggcfdaaDoorWrd
namespace Go.Proofs.YtgjpcjnhggcfdaaDoor.Cou
open Go.ChangeShapes Go.WideShapes Go.ChangeAt Go.RowKit Go.Proofs.YtgjpcjnhggcfdaaDoor.Core Go.Proofs.YtgjpcjnhggcfdaaDoor.Gnd Go.Proofs.YtgjpcjnhggcfdaaDoor.Math Go.Proofs.YtgjpcjnhggcfdaaDoor.Rvm Go.Proofs.YtgjpcjnhggcfdaaDoor.Dec Go.Proofs.YtgjpcjnhggcfdaaDoor.Wrd

/-- A tree's cells. -/
def tc (v s : Value) (f : Nat → Nat) (le : Nat) : Array Value := ((List.range 19).map fun j => if j = 0 then v else if j = 1 then s else if j = 18 then Value.int .i64 le else .int .i64 (f (j - 2))).toArray
theorem tc_size (v s : Value) (f : Nat → Nat) (le : Nat) : (tc v s f le).size = 19 := by simp [tc]
theorem tc_any (v s : Value) (f : Nat → Nat) (le j : Nat) (h : j < 19) : (tc v s f le)[j]? = some (if j = 0 then v else if j = 1 then s else if j = 18 then Value.int .i64 le else .int .i64 (f (j - 2))) := by
  simp [tc, h]
theorem tc_0 (v s : Value) (f : Nat → Nat) (le : Nat) : (tc v s f le)[0]? = some v := by rw [tc_any _ _ _ _ _ (by omega)]; rfl
theorem tc_1 (v s : Value) (f : Nat → Nat) (le : Nat) : (tc v s f le)[1]? = some s := by rw [tc_any _ _ _ _ _ (by omega)]; rfl
theorem tc_18 (v s : Value) (f : Nat → Nat) (le : Nat) : (tc v s f le)[18]? = some (.int .i64 le) := by rw [tc_any _ _ _ _ _ (by omega)]; rfl
theorem tc_at (v s : Value) (f : Nat → Nat) (le m : Nat) (h : m < 16) : (tc v s f le)[2 + m]? = some (.int .i64 (f m)) := by
  rw [tc_any _ _ _ _ _ (by omega), if_neg (by omega), if_neg (by omega), if_neg (by omega), show 2 + m - 2 = m by omega]
theorem tc_ext {xs ys : Array Value} (hx : xs.size = 19) (hy : ys.size = 19) (h : ∀ j, j < 19 → xs[j]? = ys[j]?) : xs = ys := by
  apply Array.ext_getElem?
  intro j
  by_cases hj : j < 19
  · exact h j hj
  · rw [Array.getElem?_eq_none (by omega), Array.getElem?_eq_none (by omega)]
theorem tc_set (v s : Value) (f : Nat → Nat) (le m z : Nat) (h : m < 16) : (tc v s f le).setIfInBounds (2 + m) (.int .i64 z) = tc v s (fun j => if j = m then z else f j) le := by
  refine tc_ext (by simp [tc_size]) (tc_size _ _ _ _) fun j hj => ?_
  rw [Array.getElem?_setIfInBounds, tc_any _ _ _ _ _ hj, tc_any _ _ _ _ _ hj, tc_size]
  by_cases e : 2 + m = j
  · subst e
    rw [if_pos rfl, if_pos hj, if_neg (by omega), if_neg (by omega), if_neg (by omega), if_pos (by omega)]
  · rw [if_neg e]
    by_cases e2 : j - 2 = m
    · have : j = 0 ∨ j = 1 := by omega
      rcases this with rfl | rfl <;> rfl
    · rw [if_neg e2]
theorem tc_set18 (v s : Value) (f : Nat → Nat) (le z : Nat) : (tc v s f le).setIfInBounds 18 (.int .i64 z) = tc v s f z := by
  refine tc_ext (by simp [tc_size]) (tc_size _ _ _ _) fun j hj => ?_
  rw [Array.getElem?_setIfInBounds, tc_any _ _ _ _ _ hj, tc_any _ _ _ _ _ hj, tc_size]
  by_cases e : 18 = j
  · subst e; rfl
  · rw [if_neg e, if_neg (show ¬ j = 18 by omega), if_neg (show ¬ j = 18 by omega)]
theorem tc_set1 (v s : Value) (f : Nat → Nat) (le : Nat) (z : Value) : (tc v s f le).setIfInBounds 1 z = tc v z f le := by
  refine tc_ext (by simp [tc_size]) (tc_size _ _ _ _) fun j hj => ?_
  rw [Array.getElem?_setIfInBounds, tc_any _ _ _ _ _ hj, tc_any _ _ _ _ _ hj, tc_size]
  by_cases e : 1 = j
  · subst e; rfl
  · rw [if_neg e, if_neg (show ¬ j = 1 by omega), if_neg (show ¬ j = 1 by omega)]
theorem tc_congr {v s : Value} {f f' : Nat → Nat} {le : Nat} (h : ∀ m, m < 16 → f m = f' m) : tc v s f le = tc v s f' le := by
  refine tc_ext (tc_size _ _ _ _) (tc_size _ _ _ _) fun j hj => ?_
  rw [tc_any _ _ _ _ _ hj, tc_any _ _ _ _ _ hj]
  by_cases e : j = 0
  · rw [if_pos e, if_pos e]
  · by_cases e1 : j = 1
    · rw [if_neg e, if_pos e1, if_neg e, if_pos e1]
    · by_cases e2 : j = 18
      · rw [if_neg e, if_neg e1, if_pos e2, if_neg e, if_neg e1, if_pos e2]
      · rw [if_neg e, if_neg e1, if_neg e2, if_neg e, if_neg e1, if_neg e2, h (j - 2) (by omega)]
theorem tput {w : World} {g le : Nat} {v s : Value} {f : Nat → Nat} (h : Box w g 83 (tc v s f le)) (m z : Nat) (zi : Int) (hz : zi = (z : Int)) (hm : m < 16) (f' : Nat → Nat) (hf : ∀ j, j < 16 → (if j = m then z else f j) = f' j) :
    Box (w.setCell ⟨g, 2 + m, none⟩ (.int .i64 zi)) g 83 (tc v s f' le) := by
  subst hz
  have := h.set (2 + m) (.int .i64 z)
  rw [tc_set _ _ _ _ _ _ hm, tc_congr hf] at this
  exact this
theorem tput18 {w : World} {g le : Nat} {v s : Value} {f : Nat → Nat} (h : Box w g 83 (tc v s f le)) (z : Nat) (zi : Int) (hz : zi = (z : Int)) : Box (w.setCell ⟨g, 18, none⟩ (.int .i64 zi)) g 83 (tc v s f z) := by
  subst hz
  have := h.set 18 (.int .i64 z)
  rw [tc_set18] at this
  exact this
theorem upd_drew {S : Nat → Prop} {a w : World} (h : Upd S a w) : Upd S a w.drew := ⟨h.os, h.tape, h.output, h.size, h.block⟩
/-- The count in the tree's last cell. -/
def lst (g : Nat) (w : World) : Nat := 16 - (intOf ((w.cell? ⟨g, 18, none⟩).getD (.bool false))).toNat
theorem lst_box {w : World} {g le : Nat} {v s : Value} {f : Nat → Nat} (h : Box w g 83 (tc v s f le)) : lst g w = 16 - le := by
  unfold lst
  rw [(h.cell 18).trans (tc_18 _ _ _ _)]
  simp [intOf]
set_option maxHeartbeats 1000000 in
theorem count24 (g tb n : Nat) (u : Nat → Nat) (q : Nat → Int) (s : Value) (w : World) (hb : Box w g 83 (tc (.slice (some ⟨tb, 0, none⟩) n n) s (fun _ => 0) 0)) (hw : Box w tb 99 (wrow u q n)) (hne : tb ≠ g) (hn : n ≤ 100000)
    (hq : ∀ k, k < n → -1 ≤ q k ∧ q k ≤ 15) (hex : ∃ k, k < n ∧ 0 ≤ q k) :
    Calls Tryd.prog 30 #[.pointer (some ⟨g, 0, none⟩)] w fun e w' => e = .returned (.tuple #[]) ∧ ∃ le, le ≤ 15 ∧ 0 < cq q le n ∧ (∀ j, j < le → cq q j n = 0) ∧ Box w' g 83 (tc (.slice (some ⟨tb, 0, none⟩) n n) s (fun m => cq q m n) le) ∧ Upd (fun k => k = g) w w' := by
  have HB := hide hb
  have HW := hide hw
  have HQ := hide hq
  have HEX := hide hex
  have t0 := (hb.cell 0).trans (tc_0 _ _ _ _)
  clear hb hw hq hex
  go_enter Tryd.func30, Tryd.ntmps30
  go_wp2
  go_loopw [9] (fun i wr => ∃ k : Nat, k ≤ n ∧ i = .int .i64 k ∧ Box wr g 83 (tc (.slice (some ⟨tb, 0, none⟩) n n) s (fun m => cq q m k) 0) ∧ Upd (fun k => k = g) w wr) (fun i _ => n - (intOf i).toNat)
  case atStart => exact ⟨0, Nat.zero_le _, rfl, unhide HB, Upd.refl _ _⟩
  case round =>
    obtain ⟨k, hk, rfl, bx, up⟩ := hrel
    have BX := hide bx
    have UP := hide up
    have WB := hide ((unhide HW).keep up hne)
    clear t0
    by_cases hlt : k < n
    · have hlt' : (k : Int) < (n : Int) := by omega
      have c0 := ((unhide WB).cell (k * 2)).trans (wrow_bits _ _ n k hlt)
      have c1 := ((unhide WB).cell (k * 2 + 1)).trans (wrow_cnt _ _ n k hlt)
      have hgl := bx.lt
      have hgn : g ≠ wr.heap.size := by omega
      obtain ⟨q1, q2⟩ := unhide HQ k hlt
      by_cases hz : q k = -1
      · have HZ := hide hz
        rw [hz] at c1
        clear hz q1 q2 bx up
        go_wp2
        go_roundw
        case rel =>
          refine ⟨k + 1, by omega, by go_num, ?_, (unhide UP).alloc _⟩
          rw [tc_congr (f' := fun m => cq q m k) (fun m _ => cq_not (by rw [unhide HZ]; omega))]
          exact (unhide BX).alloc _
        case measure => simp [intOf]; omega
      · obtain ⟨m, hm⟩ : ∃ m : Nat, q k = (m : Int) := ⟨(q k).toNat, by omega⟩
        have hm15 : m ≤ 15 := by omega
        have HM := hide hm
        have cl := cq_le q m k
        have ct := (bx.cell (2 + m)).trans (tc_at _ _ _ _ m (by omega))
        have ft := bx.free (2 + m)
        rw [hm] at c1
        clear hz q1 q2 bx up hm
        generalize hy : cq q m k = y at *
        have HY := hide hy
        clear hy
        have hm16 : (m : Int) < 16 := by omega
        go_wp2
        go_region
        go_wp2
        go_roundw
        case rel =>
          refine ⟨k + 1, by omega, by go_num, ?_, upd_drew (((unhide UP).setCell (p := ⟨g, 2 + m, none⟩) rfl _).alloc _)⟩
          refine (tput (unhide BX) m (y + 1) _ (by omega) (by omega) (fun m => cq q m (k + 1)) (fun j _ => ?_)).alloc _
          by_cases e : j = m
          · subst e
            rw [if_pos rfl, cq_here (unhide HM), unhide HY]
          · rw [if_neg e, cq_not (by rw [unhide HM]; omega)]
        case measure => simp [intOf]; omega
    · obtain rfl : k = n := by omega
      have hnl : ¬ (k : Int) < (k : Int) := by omega
      clear bx up WB hlt
      obtain ⟨j0, j1, j2⟩ := unhide HEX
      have q0 := unhide HQ j0 j1
      have x0 := cq_lt (q := q) (m := (q j0).toNat) j1 (by omega)
      obtain ⟨le, hle, hl1, hl2⟩ := least (fun m => 0 < cq q m k) (q j0).toNat (by omega)
      have hle15 : le ≤ 15 := by omega
      have HL1 := hide hl1
      have HL2 := hide (show ∀ j, j < le → cq q j k = 0 from fun j hj => by have := hl2 j hj; omega)
      clear j1 j2 q0 x0 hl1 hl2 HEX HQ hle j0
      go_wp2
      go_loopw [28] (fun _ wr => ∃ d : Nat, d ≤ le ∧ Box wr g 83 (tc (.slice (some ⟨tb, 0, none⟩) k k) s (fun m => cq q m k) d) ∧ Upd (fun k => k = g) w wr) (fun _ wr => lst g wr)
      case atStart => exact ⟨0, Nat.zero_le _, unhide BX, unhide UP⟩
      case round =>
        obtain ⟨d, hd, bx, up⟩ := hrel
        have BX2 := hide bx
        have UP2 := hide up
        have c18 := (bx.cell 18).trans (tc_18 _ _ _ _)
        have f18 := bx.free 18
        have cd := (bx.cell (2 + d)).trans (tc_at _ _ _ _ d (by omega))
        have hd16 : (d : Int) < 16 := by omega
        have hd15 : d ≤ 15 := by omega
        clear bx up BX UP HB HW
        by_cases e : d = le
        · subst e
          have hne0 : ¬ ((cq q d k : Nat) : Int) = 0 := by have := unhide HL1; omega
          have cle := cq_le q d k
          generalize hy : cq q d k = y at *
          go_wp2
          go_quiet (fail)
          go_wp2
          go_end0
          exact ⟨rfl, d, hle15, by have := unhide HL1; rw [hy]; exact this, unhide HL2, (unhide BX2).drewN _, (unhide UP2).drewN _⟩
        · have e0 := unhide HL2 d (by omega)
          rw [e0] at cd
          go_wp2
          go_quiet (fail)
          go_wp2
          go_roundw
          case rel => exact ⟨d + 1, by omega, tput18 ((unhide BX2).drewN _) (d + 1) _ (by omega), ((unhide UP2).drewN _).setCell (p := ⟨g, 18, none⟩) rfl _⟩
          case measure =>
            rw [lst_box (unhide BX2), lst_box (tput18 ((unhide BX2).drewN nq) (d + 1) _ (by omega))]
            omega
end Go.Proofs.YtgjpcjnhggcfdaaDoor.Cou
