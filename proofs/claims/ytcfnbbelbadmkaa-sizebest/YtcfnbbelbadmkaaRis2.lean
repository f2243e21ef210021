/- Contract: size.rising. Conditions: the slice reads as integers that may be counts, and they are few. -/
import Derived.Test.YtcfnbbelbadmkaaRis
namespace Go.Proofs.Ytcfnbbelbadmkaa.Ris2
open Go.ChangeShapes Go.WideShapes Go.ChangeAt Go.RowKit Go.Proofs.Ytcfnbbelbadmkaa.Core Go.Proofs.Ytcfnbbelbadmkaa.Gnd Go.Proofs.Ytcfnbbelbadmkaa.Srt Go.Proofs.Ytcfnbbelbadmkaa.Stb Go.Proofs.Ytcfnbbelbadmkaa.Ris

/-- What is gathered. -/
structure Gat (w wr : World) (v s : Value) (l : List Nat) : Prop where
  own : wr.ownsRow (w.heap.size + 1) 3 1 s l.length (ncells l)
  nn : l = [] → s = .slice none 0 0
  box : Box wr w.heap.size 22 #[v]
  bel : Below w.heap.size w wr
theorem Gat.app {w wr w1 : World} {v s s1 : Value} {l : List Nat} {k : Nat} {o : Obj} (h : Gat w wr v s l) (own : w1.ownsRow (w.heap.size + 1) 3 1 s1 (l.length + 1) (ncells l ++ [.int .i64 (k : Int)])) (gr : (wr.alloc o).grownBy w1 s.ownBlock) : Gat w w1 v s1 (l ++ [k]) := by
  have hlt := h.own.lt
  refine ⟨?_, fun e => by simp at e, ?_, ?_⟩
  · rw [List.length_append]
    have : ncells (l ++ [k]) = ncells l ++ [.int .i64 (k : Int)] := by simp [ncells]
    rw [this]
    exact own
  · have hb := h.box.alloc o
    refine (gr.block w.heap.size hb.lt (fun e => ?_)).trans hb
    have := (hlt _ e.symm).1
    omega
  · refine (h.bel.alloc h.bel.size o).grown gr ?_ (fun k e => ?_)
    · have := h.bel.size
      simp; omega
    · have := (hlt k e).1
      omega
theorem ncells_at (l : List Nat) (i : Nat) (h : i < l.length) : (ncells l)[i]? = some (.int .i64 ((l.getD i 0 : Nat) : Int)) := by
  simp [ncells, h]
theorem ncells_one (k : Nat) : ∀ u ∈ [Value.int .i64 (k : Int)], u.oneCell' = true := by
  intro u hu; simp at hu; subst hu; rfl
theorem Gat.row {w wr : World} {v s : Value} {l : List Nat} (h : Gat w wr v s l) (h0 : 0 < l.length) : ∃ g cap, s = .slice (some ⟨g, 0, none⟩) l.length cap ∧ l.length ≤ cap ∧ w.heap.size < g ∧ Row wr g l.length (fun i => l.getD i 0) := by
  have ho := h.own
  have hl := ho.lt
  rcases ho.2 with ⟨_, e⟩ | ⟨g, cap, cur, rfl, b1, b2, b3, b4⟩
  · omega
  · exact ⟨g, cap, rfl, b3, b1, fun i hi => ⟨(ho.cellAt i (by omega)).trans (ncells_at l i hi), ho.frozenAt i⟩⟩
/-- What size.rising answers. -/
structure Rose (w w' : World) (u : Value) (c : Nat → Int) (len : Nat) (s : Nat → Nat) : Prop where
  re : Re 0 (pos c len).length (fun i => (pos c len).getD i 0) s
  up : Up c s 0 (pos c len).length
  ints : Ints .i64 w' u (pos c len).length (fun i => (s i : Int))
  room : ∃ a cap, u = .slice a (pos c len).length cap ∧ (pos c len).length ≤ cap
  bel : Below w.heap.size w w'
theorem pos_lt {c : Nat → Int} {len : Nat} : Rg (fun i => (pos c len).getD i 0) (pos c len).length len := fun i hi => by
  have h1 : (pos c len)[i] ∈ pos c len := List.getElem_mem hi
  have h2 := ((pos_mem c _ len).1 h1).1
  show (pos c len).getD i 0 < len
  rw [List.getD_eq_getElem?_getD, List.getElem?_eq_getElem hi]
  exact h2
set_option maxHeartbeats 2000000 in
theorem ris14 (v : Value) (len : Nat) (c : Nat → Int) (hl : len ≤ 4096) (w : World) (src : Ints .i64 w v len c) (ok : Okc c len) :
    Calls Try.prog 14 #[v] w fun e w' => ∃ u s, e = .returned u ∧ Rose w w' u c len s := by
  have SRC := hide src
  obtain ⟨a, cap, rfl, hs⟩ := src
  have OK := hide ok
  have eg : ∀ args w, (callFunc 22 args).run Try.prog w = .ok (.enter 22 args) w := enters_of Try.func22 (by kernel_rfl) rfl
  obtain ⟨i0, hi0, hz0, hz1, hz2⟩ := info_parts info3
  clear hs ok
  go_enter Try.func14, Try.ntmps14
  go_wp2
  go_loopw [3, 8] (fun s i wr => ∃ k : Nat, k ≤ len ∧ i = .int .i64 k ∧ Gat w wr (.slice a len cap) s (pos c k)) (fun _ i _ => len - (intOf i).toNat)
  case atStart => exact ⟨0, Nat.zero_le _, rfl, ⟨World.ownsRow_nil _ _ _ _, fun _ => rfl, Box.made w 22 _, (Below.refl _ w).alloc (Nat.le_refl _) _⟩⟩
  case round =>
    obtain ⟨k, hk, rfl, gat⟩ := hrel
    have GAT := hide gat
    have pl := pos_len c k
    by_cases hlt : k < len
    · have hlt' : (k : Int) < (len : Int) := by omega
      obtain ⟨a', cap', e', hs'⟩ := (unhide SRC).keep gat.bel
      cases e'
      obtain ⟨b, off, rfl, hcell⟩ := hs' k hlt
      clear gat hs'
      by_cases hp : 0 < c k
      · have E1 := hide (show pos c (k + 1) = pos c k ++ [k] from by show (if 0 < c k then _ else _) = _; rw [if_pos hp])
        go_wp2_with (first | (at_builtin; refine wpList_append_own _ rfl (.tmp 15) (.tmp 17) 22 rfl (w.heap.size + 1) 3 i0 (.int .i64 0) 1 8 Try.underlying22 hi0 hz0 hz1 hz2 rfl (by decide) _ (pos c k).length (ncells (pos c k)) rfl ((unhide GAT).own.alloc _) ⟨wr.heap.size, 0, none⟩ 1 1 [.int .i64 (k : Int)] rfl rfl (cell_one_new _ _ _) (ncells_one k) (by unfold maxLen; omega) (by omega) (by have := (unhide GAT).box.lt; simp; omega) ?_; intro v1 w1 own1 gr1 _; have GA1 := hide ((unhide GAT).app own1 gr1); clear own1 gr1) | fail)
        go_roundw
        case rel => exact ⟨k + 1, by omega, by go_num, by rw [unhide E1]; exact unhide GA1⟩
        case measure => simp [intOf]; omega
      · have E1 := hide (show pos c (k + 1) = pos c k from by show (if 0 < c k then _ else _) = _; rw [if_neg hp])
        go_wp2
        go_roundw
        case rel => exact ⟨k + 1, by omega, by go_num, by rw [unhide E1]; exact unhide GAT⟩
        case measure => simp [intOf]; omega
    · obtain rfl : k = len := by omega
      have hnl : ¬ (k : Int) < (k : Int) := by omega
      by_cases h0 : 0 < (pos c k).length
      · obtain ⟨g, cap2, rfl, room, hg, row⟩ := gat.row h0
        have hbel := gat.bel
        have hbox := gat.box
        have AS := hide (show Asks 22 #[.pointer (some ⟨w.heap.size, 0, none⟩)] wr g k c from ⟨fun x hx => unhide OK x hx, fun W u x y hx hy =>
          cmp22 w.heap.size _ k c x y W ((u.cell (p := ⟨w.heap.size, 0, none⟩) hbox.lt (fun e => by simp at e; omega)).trans (hbox.cell 0)) ((unhide SRC).keep (hbel.trans (u.below w.heap.size hbel.size (fun j e => by omega)))) (unhide OK) hx hy⟩)
        have ROW := hide row
        have BEL := hide hbel
        have RM := hide room
        clear gat row hbel hbox room
        go_wp2_with fail
        refine (sta21 22 eg _ g _ cap2 k _ c _ (unhide ROW) pos_lt (unhide AS) (by omega)).mono ?_
        rintro e w1 ⟨rfl, s, re, up, row1, u1⟩
        have RO := hide (show Rose w w1 (.slice (some ⟨g, 0, none⟩) (pos c k).length cap2) c k s from ⟨re, up, ⟨_, cap2, rfl, fun i hi => ⟨g, 0, rfl, by rw [Nat.zero_add]; exact (row1 i hi).1⟩⟩, ⟨_, cap2, rfl, unhide RM⟩, (unhide BEL).trans (u1.below w.heap.size (unhide BEL).size (fun j e => by omega))⟩)
        clear re up row1 u1
        go_wp2
        go_ret
        exact ⟨_, s, rfl, unhide RO⟩
      · have hnil : pos c k = [] := List.eq_nil_of_length_eq_zero (by omega)
        obtain rfl := gat.nn hnil
        have RO := hide (show ∀ w1, w1 = wr → Rose w w1 (.slice none 0 0) c k (fun i => (pos c k).getD i 0) from fun w1 e => by
          subst e
          have e0 : (pos c k).length = 0 := by rw [hnil]; rfl
          refine ⟨Re.refl _ _ _, fun i j _ _ h => by omega, ⟨none, 0, by rw [e0], fun i hi => by omega⟩, ⟨none, 0, by rw [e0], by omega⟩, gat.bel⟩)
        clear gat hnil
        go_wp2_with fail
        refine (sta21_nil _ _).mono ?_
        rintro e w1 ⟨rfl, hw⟩
        have HW := hide hw
        clear hw
        go_wp2
        go_ret
        exact ⟨_, _, rfl, unhide RO _ (unhide HW)⟩
end Go.Proofs.Ytcfnbbelbadmkaa.Ris2
