/-
  Contracts: size.good and all that it calls; size.rising. Conditions: the slice reads as integers, and they are few.
  Contract: size.rising. Conditions: the slice reads as integers that may be counts, and they are few.
  Contract: size.Best. Conditions: the slice reads as integers, and they are few.
  Plain facts: the lengths are complete, each is at least 1, and what they cost. Conditions: as each says.
-/
import Derived.Test.YtgjpcjnhggcfdaaGreatDoorC19
import Derived.Maps.AppendAt
import Derived.Test.YtgjpcjnhggcfdaaGreatDoorC18
namespace Go.Proofs.YtgjpcjnhggcfdaaGreatDoor.ZRis
open Go.ChangeShapes Go.WideShapes Go.ChangeAt Go.RowKit Go.Proofs.YtgjpcjnhggcfdaaGreatDoor.Core Go.Proofs.YtgjpcjnhggcfdaaGreatDoor.Gnd Go.Proofs.YtgjpcjnhggcfdaaGreatDoor.ZSrt Go.Proofs.YtgjpcjnhggcfdaaGreatDoor.ZStb

/-- Counts that may be. -/
def Okc (c : Nat → Int) (n : Nat) : Prop := ∀ k, k < n → 0 ≤ c k ∧ c k ≤ 4294967296
def okB (c : Nat → Int) : Nat → Bool
  | 0 => true
  | n + 1 => okB c n && decide (0 ≤ c n ∧ c n ≤ 4294967296)
theorem okB_iff (c : Nat → Int) : ∀ n, okB c n = true ↔ Okc c n
  | 0 => ⟨fun _ k hk => by omega, fun _ => rfl⟩
  | n + 1 => by
    rw [okB, Bool.and_eq_true, okB_iff c n, decide_eq_true_iff]
    constructor
    · rintro ⟨h1, h2⟩ k hk
      by_cases e : k = n
      · subst e; exact h2
      · exact h1 k (by omega)
    · intro h
      exact ⟨fun k hk => h k (by omega), h n (by omega)⟩
theorem bad19 (x : Int) (w : World) : Calls Tryz.prog 95 #[.int .i64 x] w fun e w' => e = .returned (.bool (decide (x < 0 ∨ 4294967296 < x))) ∧ w' = w := by
  by_cases h1 : x < 0
  · have hb : decide (x < 0 ∨ 4294967296 < x) = true := by simp [h1]
    rw [hb]
    clear hb
    go_enter Tryz.func95, Tryz.ntmps95
    go_wp2
    go_ret
    exact ⟨rfl, rfl⟩
  · by_cases h2 : 4294967296 < x
    · have hb : decide (x < 0 ∨ 4294967296 < x) = true := by simp [h2]
      rw [hb]
      clear hb
      go_enter Tryz.func95, Tryz.ntmps95
      go_wp2
      go_ret
      exact ⟨rfl, rfl⟩
    · have hb : decide (x < 0 ∨ 4294967296 < x) = false := by simp; omega
      rw [hb]
      clear hb
      go_enter Tryz.func95, Tryz.ntmps95
      go_wp2
      go_ret
      exact ⟨rfl, rfl⟩
theorem idx22 (v : Value) (len : Nat) (c : Nat → Int) (hl : len ≤ 100000) (w : World) (src : Ints .i64 w v len c) :
    Calls Tryz.prog 76 #[v, .func (.func 95) #[] #[]] w fun e w' => ∃ r : Int, e = .returned (.int .i64 r) ∧ decide (0 ≤ r) = !okB c len ∧ w' = w := by
  obtain ⟨a, cap, rfl, hs⟩ := src
  have SRC := hide hs
  clear hs
  go_enter Tryz.func76, Tryz.ntmps76
  go_wp2
  go_loopw [8] (fun i wr => ∃ k : Nat, k ≤ len ∧ i = .int .i64 k ∧ Okc c k ∧ wr = w) (fun i _ => len - (intOf i).toNat)
  case atStart => exact ⟨0, Nat.zero_le _, rfl, fun j hj => by omega, rfl⟩
  case round =>
    obtain ⟨k, hk, rfl, good, rfl⟩ := hrel
    have GOOD := hide good
    clear good
    by_cases hlt : k < len
    · have hlt' : (k : Int) < (len : Int) := by omega
      obtain ⟨b, off, rfl, hcell⟩ := unhide SRC k hlt
      by_cases hx : c k < 0 ∨ 4294967296 < c k
      · have hb : decide (c k < 0 ∨ 4294967296 < c k) = true := by simp [hx]
        have HX := hide hx
        clear hx
        go_wp2_with (go_at_call 95; refine (bad19 (c k) _).mono ?_; rw [hb]; rintro e w1 ⟨rfl, rfl⟩)
        go_ret
        refine ⟨_, rfl, ?_, rfl⟩
        have h1 : okB c len = false := by
          cases h2 : okB c len
          · rfl
          · have := (okB_iff c len).1 h2 k hlt
            have := unhide HX
            omega
        rw [h1]
        exact decide_eq_true (by omega)
      · have hb : decide (c k < 0 ∨ 4294967296 < c k) = false := by simp [hx]
        have HX := hide hx
        clear hx
        go_wp2_with (go_at_call 95; refine (bad19 (c k) _).mono ?_; rw [hb]; rintro e w1 ⟨rfl, rfl⟩)
        go_roundw
        case rel =>
          refine ⟨k + 1, by omega, by go_num, fun j hj => ?_, by first | rfl | trivial⟩
          by_cases e : j = k
          · subst e
            have := unhide HX
            omega
          · exact unhide GOOD j (by omega)
        case measure => simp [intOf]; omega
    · obtain rfl : k = len := by omega
      go_wp2
      go_ret
      refine ⟨_, rfl, ?_, rfl⟩
      rw [(okB_iff c k).2 (unhide GOOD)]
      rfl
theorem con18 (v : Value) (len : Nat) (c : Nat → Int) (hl : len ≤ 100000) (w : World) (src : Ints .i64 w v len c) :
    Calls Tryz.prog 62 #[v, .func (.func 95) #[] #[]] w fun e w' => e = .returned (.bool (!okB c len)) ∧ w' = w := by
  have SRC := hide src
  clear src
  go_enter Tryz.func62, Tryz.ntmps62
  go_wp2_with (go_at_call 76; refine (idx22 v len c hl _ (unhide SRC)).mono ?_; rintro e w1 ⟨r, rfl, hr, rfl⟩; have HR := hide hr; clear hr)
  go_ret
  exact ⟨by rw [← unhide HR]; rfl, rfl⟩
theorem good13 (v : Value) (len : Nat) (c : Nat → Int) (hl : len ≤ 4096) (w : World) (src : Ints .i64 w v len c) :
    Calls Tryz.prog 91 #[v] w fun e w' => e = .returned (.bool (okB c len)) ∧ w' = w := by
  have SRC := hide src
  obtain ⟨a, cap, rfl, _⟩ := src
  have hl' : (len : Int) ≤ 4096 := by omega
  go_enter Tryz.func91, Tryz.ntmps91
  go_wp2_with (go_at_call 62; refine (con18 _ len c (by omega) _ (unhide SRC)).mono ?_; rintro e w1 ⟨rfl, rfl⟩)
  go_ret
  exact ⟨by simp, rfl⟩
/-- The function that compares two symbols by their counts. -/
theorem cmp22 (B : Nat) (v : Value) (len : Nat) (c : Nat → Int) (x y : Nat) (W : World) (hb : W.cell? ⟨B, 0, none⟩ = some v) (src : Ints .i64 W v len c) (ok : Okc c len) (hx : x < len) (hy : y < len) :
    Calls Tryz.prog 97 (#[.int .i64 x, .int .i64 y] ++ #[.pointer (some ⟨B, 0, none⟩)]) W fun e W' => e = .returned (.int .i64 (c x - c y)) ∧ ∃ q, W' = W.drewN q := by
  obtain ⟨a, cap, rfl, hs⟩ := src
  obtain ⟨b, off, rfl, c1⟩ := hs x hx
  obtain ⟨b2, off2, e2, c2⟩ := hs y hy
  cases e2
  have o1 := ok x hx
  have o2 := ok y hy
  have hx' : (x : Int) < (len : Int) := by omega
  have hy' : (y : Int) < (len : Int) := by omega
  clear hs ok
  go_enter Tryz.func97, Tryz.ntmps97
  go_wp2
  go_quiet ((fail))
  go_wp2
  go_ret
  exact ⟨rfl, _, rfl⟩
/-- The places of counts above 0, in their order. -/
def pos (c : Nat → Int) : Nat → List Nat
  | 0 => []
  | n + 1 => if 0 < c n then pos c n ++ [n] else pos c n
theorem pos_len (c : Nat → Int) : ∀ n, (pos c n).length ≤ n
  | 0 => Nat.le_refl _
  | n + 1 => by
    have := pos_len c n
    unfold pos
    split
    · rw [List.length_append]; simp; omega
    · omega
theorem pos_mem (c : Nat → Int) (x : Nat) : ∀ n, x ∈ pos c n ↔ x < n ∧ 0 < c x
  | 0 => by simp [pos]
  | n + 1 => by
    unfold pos
    have := pos_mem c x n
    split
    · next h =>
      rw [List.mem_append, this, List.mem_singleton]
      constructor
      · rintro (⟨h1, h2⟩ | rfl)
        · exact ⟨by omega, h2⟩
        · exact ⟨by omega, h⟩
      · rintro ⟨h1, h2⟩
        by_cases e : x = n
        · exact .inr e
        · exact .inl ⟨by omega, h2⟩
    · next h =>
      rw [this]
      constructor
      · rintro ⟨h1, h2⟩
        exact ⟨by omega, h2⟩
      · rintro ⟨h1, h2⟩
        by_cases e : x = n
        · subst e; exact absurd h2 h
        · exact ⟨by omega, h2⟩
def ncells (l : List Nat) : List Value := l.map fun (k : Nat) => Value.int .i64 (k : Int)
theorem info3 : (Tryz.prog.info? 3).map (fun i => (i.zero, i.size, i.bytes)) = some (some (.int .i64 0), 1, 8) := by kernel_rfl
theorem ins29_nil (a : Nat) (cf : Value) (w : World) (ha : a ≤ 100) : Calls Tryz.prog 102 #[.slice none 0 0, .int .i64 a, .int .i64 0, cf] w fun e w' => e = .returned (.tuple #[]) ∧ w' = w := by
  have h1 : ¬ (a : Int) + 1 < 0 := by omega
  go_enter Tryz.func102, Tryz.ntmps102
  go_wp2
  refine wp_loop_rounds 1 ?_
  rw [rounds_succ]
  go_wp2
  go_end0
  exact ⟨rfl, rfl⟩
theorem stb27_nil (cf : Value) (w : World) : Calls Tryz.prog 100 #[.slice none 0 0, .int .i64 0, cf] w fun e w' => e = .returned (.tuple #[]) ∧ w' = w := by
  go_enter Tryz.func100, Tryz.ntmps100
  go_wp2
  refine wp_loop_rounds 1 ?_
  rw [rounds_succ]
  go_wp2_with (go_at_call 102; refine (ins29_nil 0 cf _ (by omega)).mono ?_; rintro e w1 ⟨rfl, rfl⟩)
  refine wp_loop_rounds 1 ?_
  rw [rounds_succ]
  go_wp2
  go_end0
  exact ⟨rfl, rfl⟩
theorem sta21_nil (cf : Value) (w : World) : Calls Tryz.prog 96 #[.slice none 0 0, cf] w fun e w' => e = .returned (.tuple #[]) ∧ w' = w := by
  go_enter Tryz.func96, Tryz.ntmps96
  go_wp2_with (go_at_call 100; refine (stb27_nil cf _).mono ?_; rintro e w1 ⟨rfl, rfl⟩)
  go_end0
  exact ⟨rfl, rfl⟩
end Go.Proofs.YtgjpcjnhggcfdaaGreatDoor.ZRis

namespace Go.Proofs.YtgjpcjnhggcfdaaGreatDoor.ZRis2
open Go.ChangeShapes Go.WideShapes Go.ChangeAt Go.RowKit Go.Proofs.YtgjpcjnhggcfdaaGreatDoor.Core Go.Proofs.YtgjpcjnhggcfdaaGreatDoor.Gnd Go.Proofs.YtgjpcjnhggcfdaaGreatDoor.ZSrt Go.Proofs.YtgjpcjnhggcfdaaGreatDoor.ZStb Go.Proofs.YtgjpcjnhggcfdaaGreatDoor.ZRis

/-- What is gathered. -/
structure Gat (w wr : World) (v s : Value) (l : List Nat) : Prop where
  own : wr.ownsRow (w.heap.size + 1) 3 1 s l.length (ncells l)
  nn : l = [] → s = .slice none 0 0
  box : Box wr w.heap.size 26 #[v]
  bel : Below w.heap.size w wr
theorem Gat.app {w wr w1 : World} {v s s1 : Value} {l : List Nat} {k : Nat} {o : Obj} (h : Gat w wr v s l) (own : w1.ownsRow (w.heap.size + 1) 3 1 s1 (l.length + 1) (ncells l ++ [.int .i64 (k : Int)])) (gr : (wr.alloc o).grownBy w1 s.ownBlock) : Gat w w1 v s1 (l ++ [k]) := by
  have hlt := h.own.lt
  refine ⟨?_, fun e => by simp at e, ?_, ?_⟩
  · rw [List.length_append]
    have : ncells (l ++ [k]) = ncells l ++ [.int .i64 (k : Int)] := by simp [ncells]
    rw [this]
    exact own
  · have hb := h.box.alloc o
    refine (gr.block w.heap.size hb.lt (fun e => ?_)).trans hb
    have := (hlt _ e.symm).1
    omega
  · refine (h.bel.alloc h.bel.size o).grown gr ?_ (fun k e => ?_)
    · have := h.bel.size
      simp; omega
    · have := (hlt k e).1
      omega
theorem ncells_at (l : List Nat) (i : Nat) (h : i < l.length) : (ncells l)[i]? = some (.int .i64 ((l.getD i 0 : Nat) : Int)) := by
  simp [ncells, h]
theorem ncells_one (k : Nat) : ∀ u ∈ [Value.int .i64 (k : Int)], u.oneCell' = true := by
  intro u hu; simp at hu; subst hu; rfl
theorem Gat.row {w wr : World} {v s : Value} {l : List Nat} (h : Gat w wr v s l) (h0 : 0 < l.length) : ∃ g cap, s = .slice (some ⟨g, 0, none⟩) l.length cap ∧ l.length ≤ cap ∧ w.heap.size < g ∧ Row wr g l.length (fun i => l.getD i 0) := by
  have ho := h.own
  have hl := ho.lt
  rcases ho.2 with ⟨_, e⟩ | ⟨g, cap, cur, rfl, b1, b2, b3, b4⟩
  · omega
  · exact ⟨g, cap, rfl, b3, b1, fun i hi => ⟨(ho.cellAt i (by omega)).trans (ncells_at l i hi), ho.frozenAt i⟩⟩
/-- What size.rising answers. -/
structure Rose (w w' : World) (u : Value) (c : Nat → Int) (len : Nat) (s : Nat → Nat) : Prop where
  re : Re 0 (pos c len).length (fun i => (pos c len).getD i 0) s
  up : Up c s 0 (pos c len).length
  ints : Ints .i64 w' u (pos c len).length (fun i => (s i : Int))
  room : ∃ a cap, u = .slice a (pos c len).length cap ∧ (pos c len).length ≤ cap
  bel : Below w.heap.size w w'
theorem pos_lt {c : Nat → Int} {len : Nat} : Rg (fun i => (pos c len).getD i 0) (pos c len).length len := fun i hi => by
  have h1 : (pos c len)[i] ∈ pos c len := List.getElem_mem hi
  have h2 := ((pos_mem c _ len).1 h1).1
  show (pos c len).getD i 0 < len
  rw [List.getD_eq_getElem?_getD, List.getElem?_eq_getElem hi]
  exact h2
set_option maxHeartbeats 2000000 in
theorem ris14 (v : Value) (len : Nat) (c : Nat → Int) (hl : len ≤ 4096) (w : World) (src : Ints .i64 w v len c) (ok : Okc c len) :
    Calls Tryz.prog 92 #[v] w fun e w' => ∃ u s, e = .returned u ∧ Rose w w' u c len s := by
  have SRC := hide src
  obtain ⟨a, cap, rfl, hs⟩ := src
  have OK := hide ok
  have eg : ∀ args w, (callFunc 97 args).run Tryz.prog w = .ok (.enter 97 args) w := enters_of Tryz.func97 (by kernel_rfl) rfl
  obtain ⟨i0, hi0, hz0, hz1, hz2⟩ := info_parts info3
  clear hs ok
  go_enter Tryz.func92, Tryz.ntmps92
  go_wp2
  go_loopw [3, 8] (fun s i wr => ∃ k : Nat, k ≤ len ∧ i = .int .i64 k ∧ Gat w wr (.slice a len cap) s (pos c k)) (fun _ i _ => len - (intOf i).toNat)
  case atStart => exact ⟨0, Nat.zero_le _, rfl, ⟨World.ownsRow_nil _ _ _ _, fun _ => rfl, Box.made w 26 _, (Below.refl _ w).alloc (Nat.le_refl _) _⟩⟩
  case round =>
    obtain ⟨k, hk, rfl, gat⟩ := hrel
    have GAT := hide gat
    have pl := pos_len c k
    by_cases hlt : k < len
    · have hlt' : (k : Int) < (len : Int) := by omega
      obtain ⟨a', cap', e', hs'⟩ := (unhide SRC).keep gat.bel
      cases e'
      obtain ⟨b, off, rfl, hcell⟩ := hs' k hlt
      clear gat hs'
      by_cases hp : 0 < c k
      · have E1 := hide (show pos c (k + 1) = pos c k ++ [k] from by show (if 0 < c k then _ else _) = _; rw [if_pos hp])
        go_wp2_with (first | (at_builtin; refine wpList_append_own _ rfl (.tmp 15) (.tmp 17) 26 rfl (w.heap.size + 1) 3 i0 (.int .i64 0) 1 8 Tryz.underlying26 hi0 hz0 hz1 hz2 rfl (by decide) _ (pos c k).length (ncells (pos c k)) rfl ((unhide GAT).own.alloc _) ⟨wr.heap.size, 0, none⟩ 1 1 [.int .i64 (k : Int)] rfl rfl (cell_one_new _ _ _) (ncells_one k) (by unfold maxLen; omega) (by omega) (by have := (unhide GAT).box.lt; simp; omega) ?_; intro v1 w1 own1 gr1 _; have GA1 := hide ((unhide GAT).app own1 gr1); clear own1 gr1) | fail)
        go_roundw
        case rel => exact ⟨k + 1, by omega, by go_num, by rw [unhide E1]; exact unhide GA1⟩
        case measure => simp [intOf]; omega
      · have E1 := hide (show pos c (k + 1) = pos c k from by show (if 0 < c k then _ else _) = _; rw [if_neg hp])
        go_wp2
        go_roundw
        case rel => exact ⟨k + 1, by omega, by go_num, by rw [unhide E1]; exact unhide GAT⟩
        case measure => simp [intOf]; omega
    · obtain rfl : k = len := by omega
      have hnl : ¬ (k : Int) < (k : Int) := by omega
      by_cases h0 : 0 < (pos c k).length
      · obtain ⟨g, cap2, rfl, room, hg, row⟩ := gat.row h0
        have hbel := gat.bel
        have hbox := gat.box
        have AS := hide (show Asks 97 #[.pointer (some ⟨w.heap.size, 0, none⟩)] wr g k c from ⟨fun x hx => unhide OK x hx, fun W u x y hx hy =>
          cmp22 w.heap.size _ k c x y W ((u.cell (p := ⟨w.heap.size, 0, none⟩) hbox.lt (fun e => by simp at e; omega)).trans (hbox.cell 0)) ((unhide SRC).keep (hbel.trans (u.below w.heap.size hbel.size (fun j e => by omega)))) (unhide OK) hx hy⟩)
        have ROW := hide row
        have BEL := hide hbel
        have RM := hide room
        clear gat row hbel hbox room
        go_wp2_with fail
        refine (sta21 97 eg _ g _ cap2 k _ c _ (unhide ROW) pos_lt (unhide AS) (by omega)).mono ?_
        rintro e w1 ⟨rfl, s, re, up, row1, u1⟩
        have RO := hide (show Rose w w1 (.slice (some ⟨g, 0, none⟩) (pos c k).length cap2) c k s from ⟨re, up, ⟨_, cap2, rfl, fun i hi => ⟨g, 0, rfl, by rw [Nat.zero_add]; exact (row1 i hi).1⟩⟩, ⟨_, cap2, rfl, unhide RM⟩, (unhide BEL).trans (u1.below w.heap.size (unhide BEL).size (fun j e => by omega))⟩)
        clear re up row1 u1
        go_wp2
        go_ret
        exact ⟨_, s, rfl, unhide RO⟩
      · have hnil : pos c k = [] := List.eq_nil_of_length_eq_zero (by omega)
        obtain rfl := gat.nn hnil
        have RO := hide (show ∀ w1, w1 = wr → Rose w w1 (.slice none 0 0) c k (fun i => (pos c k).getD i 0) from fun w1 e => by
          subst e
          have e0 : (pos c k).length = 0 := by rw [hnil]; rfl
          refine ⟨Re.refl _ _ _, fun i j _ _ h => by omega, ⟨none, 0, by rw [e0], fun i hi => by omega⟩, ⟨none, 0, by rw [e0], by omega⟩, gat.bel⟩)
        clear gat hnil
        go_wp2_with fail
        refine (sta21_nil _ _).mono ?_
        rintro e w1 ⟨rfl, hw⟩
        have HW := hide hw
        clear hw
        go_wp2
        go_ret
        exact ⟨_, _, rfl, unhide RO _ (unhide HW)⟩
end Go.Proofs.YtgjpcjnhggcfdaaGreatDoor.ZRis2

namespace Go.Proofs.YtgjpcjnhggcfdaaGreatDoor.ZBst
open Go.ChangeShapes Go.WideShapes Go.ChangeAt Go.RowKit Go.Proofs.YtgjpcjnhggcfdaaGreatDoor.Core Go.Proofs.YtgjpcjnhggcfdaaGreatDoor.Gnd Go.Proofs.YtgjpcjnhggcfdaaGreatDoor.ZSrt Go.Proofs.YtgjpcjnhggcfdaaGreatDoor.ZRis Go.Proofs.YtgjpcjnhggcfdaaGreatDoor.ZRis2 Go.Proofs.YtgjpcjnhggcfdaaGreatDoor.ZItm Go.Proofs.YtgjpcjnhggcfdaaGreatDoor.ZMrg Go.Proofs.YtgjpcjnhggcfdaaGreatDoor.ZPur Go.Proofs.YtgjpcjnhggcfdaaGreatDoor.ZSpr
open Go.Proofs.YtgjpcjnhggcfdaaGreatDoor.ZShr (sRow sRow_at sRow_size sRow_set sRow_congr make_ints)
open Go.Proofs.YtgjpcjnhggcfdaaGreatDoor.ZSha

def ParOk : Prop := ∀ (v : Value) (xs : List It) (w : World), Its w v xs → xs.length ≤ 20000 → (∀ x ∈ xs, 0 < x.1 ∧ x.1 ≤ 4000000000000000000) → Calls Tryz.prog 99 #[v] w fun e w' => ∃ r, e = .returned r ∧ Its w' r (prs xs) ∧ Below w.heap.size w w'
theorem prs_max {B : Int} : ∀ (xs : List It), (∀ x ∈ xs, x.1 ≤ B) → ∀ y ∈ prs xs, y.1 ≤ 2 * B
  | [], _ => fun y h => by simp [prs] at h
  | [_], _ => fun y h => by simp [prs] at h
  | a :: b :: t, hp => fun y h => by
    simp only [prs, List.mem_cons] at h
    rcases h with rfl | h
    · have h1 := hp a (by simp)
      have h2 := hp b (by simp)
      show a.1 + b.1 ≤ _
      omega
    · exact prs_max t (fun x hx => hp x (by simp [hx])) y h
theorem row_max {S : List It} (hB : ∀ x ∈ S, x.1 ≤ 4294967296) : ∀ i, ∀ x ∈ rowI S i, x.1 ≤ 4294967296 * 2 ^ i
  | 0 => fun x hx => by have := hB x hx; omega
  | i + 1 => fun x hx => by
    have hp : (0 : Int) < 2 ^ i := Int.pow_pos (by omega)
    rcases row_mem.1 hx with h1 | h1
    · have := hB x h1
      rw [Int.pow_succ]
      omega
    · have := prs_max _ (row_max hB i) x h1
      rw [Int.pow_succ]
      omega
theorem row_max15 {S : List It} (hB : ∀ x ∈ S, x.1 ≤ 4294967296) (i : Nat) (hi : i < 15) : ∀ x, x ∈ rowI S i → x.1 ≤ 4000000000000000000 := fun x hx => by
  have h1 := row_max hB i x hx
  have h2 : (2 : Int) ^ i ≤ 2 ^ 15 := by
    have : 2 ^ i ≤ 2 ^ 15 := Nat.pow_le_pow_right (by omega) (by omega)
    have e : ((2 ^ i : Nat) : Int) = (2 : Int) ^ i := by simp
    rw [← e]
    omega
  omega
/-- What the lengths are. -/
structure Lns (c : Nat → Int) (len m : Nat) (s : Nat → Nat) (M : Nat → Nat) : Prop where
  re : Re 0 (pos c len).length (fun i => (pos c len).getD i 0) s
  up : Up c s 0 (pos c len).length
  one : (pos c len).length = 1 → M (s 0) = 1
  more : (pos c len).length ≠ 1 → ∀ p, p < (pos c len).length → M (s p) = sumN (fun r => if p < sprd (wts c (fun i => (s i : Int)) (pos c len).length) (m - 1) (2 * (pos c len).length - 2) r then 1 else 0) m
  none : ∀ x, x < len → (∀ p, p < (pos c len).length → s p ≠ x) → M x = 0
theorem pos_nodup (c : Nat → Int) : ∀ n i j, i < j → j < (pos c n).length → (pos c n).getD i 0 < (pos c n).getD j 0
  | 0, i, j, _, h => by simp [pos] at h
  | n + 1, i, j, hij, h => by
    unfold pos at h ⊢
    split at h
    · next hc =>
      rw [if_pos hc]
      have ih := pos_nodup c n
      rw [List.length_append] at h
      simp only [List.length_cons, List.length_nil] at h
      by_cases e : j < (pos c n).length
      · rw [List.getD_eq_getElem?_getD, List.getD_eq_getElem?_getD, List.getElem?_append_left (by omega), List.getElem?_append_left e]
        have := ih i j hij e
        rwa [List.getD_eq_getElem?_getD, List.getD_eq_getElem?_getD] at this
      · have ej : j = (pos c n).length := by omega
        have h1 : (pos c n).getD i 0 < n := pos_lt (c := c) (len := n) i (by omega)
        rw [List.getD_eq_getElem?_getD] at h1
        rw [List.getD_eq_getElem?_getD, List.getD_eq_getElem?_getD, List.getElem?_append_left (by omega), ej, List.getElem?_append_right (Nat.le_refl _)]
        simpa using h1
    · next hc =>
      rw [if_neg hc]
      exact pos_nodup c n i j hij h
theorem pos_inj {c : Nat → Int} {n i j : Nat} (hi : i < (pos c n).length) (hj : j < (pos c n).length) (h : (pos c n).getD i 0 = (pos c n).getD j 0) : i = j := by
  rcases Nat.lt_trichotomy i j with e | e | e
  · have := pos_nodup c n i j e hj; omega
  · exact e
  · have := pos_nodup c n j i e hi; omega
theorem re_inj {c : Nat → Int} {n : Nat} {s : Nat → Nat} (h : Re 0 (pos c n).length (fun i => (pos c n).getD i 0) s) {i j : Nat} (hi : i < (pos c n).length) (hj : j < (pos c n).length) (e : s i = s j) : i = j := by
  obtain ⟨p, q, h1, _, h3, h4⟩ := h
  rw [h4, h4] at e
  have a1 := h3 i (Nat.zero_le _) hi
  have a2 := h3 j (Nat.zero_le _) hj
  have := pos_inj a1.2.1 a2.2.1 e
  have h5 := (h1 i).2
  rw [this, (h1 j).2] at h5
  exact h5.symm
theorem re_pos {c : Nat → Int} {n : Nat} {s : Nat → Nat} (h : Re 0 (pos c n).length (fun i => (pos c n).getD i 0) s) {i : Nat} (hi : i < (pos c n).length) : s i < n ∧ 0 < c (s i) := by
  obtain ⟨j, _, h2, h3⟩ := h.into i (Nat.zero_le _) hi
  have h1 : (pos c n)[j] ∈ pos c n := List.getElem_mem h2
  have h4 := (pos_mem c _ n).1 h1
  have e : s i = (pos c n)[j] := by
    rw [h3, List.getD_eq_getElem?_getD, List.getElem?_eq_getElem h2]
    rfl
  rw [e]
  exact h4
theorem sym_of {c : Nat → Int} {n : Nat} {s : Nat → Nat} (h : Re 0 (pos c n).length (fun i => (pos c n).getD i 0) s) (up : Up c s 0 (pos c n).length) : Sym (wts c (fun i => (s i : Int)) (pos c n).length) := by
  refine ⟨fun i j hij hj => ?_, fun x hx => ?_, fun x hx => ?_⟩
  · rw [wts_len] at hj
    rw [wts_at _ _ _ _ (by omega), wts_at _ _ _ _ hj]
    exact up i j (Nat.zero_le _) hij hj
  · simp only [wts, List.mem_map, List.mem_range] at hx
    obtain ⟨i, hi, rfl⟩ := hx
    exact (re_pos h hi).2
  · simp only [wts, List.mem_map, List.mem_range] at hx
    obtain ⟨i, hi, rfl⟩ := hx
    rfl
/-- Lengths in a block. -/
structure Len (w2 wr : World) (len : Nat) (M : Nat → Nat) : Prop where
  box : Box wr w2.heap.size 3 (sRow (fun r => .int .i64 (M r)) len)
  bel : Below w2.heap.size w2 wr
theorem Len.put {w2 wr : World} {len : Nat} {M : Nat → Nat} (h : Len w2 wr len M) (k z : Nat) : Len w2 (wr.setCell ⟨w2.heap.size, k, none⟩ (.int .i64 z)) len (fun r => if r = k then z else M r) := by
  refine ⟨?_, h.bel.setCell (p := ⟨w2.heap.size, k, none⟩) (Nat.le_refl _) _⟩
  have := h.box.set k (.int .i64 z)
  rw [sRow_set, sRow_congr (g := fun r => .int .i64 (((if r = k then z else M r : Nat)) : Int)) (fun r _ => by by_cases e : r = k <;> simp [e])] at this
  exact this
theorem Len.ints {w2 wr : World} {len : Nat} {M : Nat → Nat} (h : Len w2 wr len M) (cap : Nat) : Ints .i64 wr (.slice (some ⟨w2.heap.size, 0, none⟩) len cap) len (fun i => (M i : Int)) :=
  ⟨_, cap, rfl, fun i hi => ⟨w2.heap.size, 0, rfl, by rw [Nat.zero_add, h.box.cell, sRow_at _ _ _ hi]⟩⟩
/-- The lengths behind r rows, and k symbols of the next. -/
structure Cnt (c : Nat → Int) (len : Nat) (s t M : Nat → Nat) (r k : Nat) : Prop where
  at_ : ∀ p, p < (pos c len).length → M (s p) = sumN (fun x => if p < t x then 1 else 0) r + (if p < k then 1 else 0)
  none : ∀ x, x < len → (∀ p, p < (pos c len).length → s p ≠ x) → M x = 0
theorem sum_le (g : Nat → Nat) (h : ∀ x, g x ≤ 1) : ∀ n, sumN g n ≤ n
  | 0 => Nat.le_refl _
  | n + 1 => by
    have := sum_le g h n
    have := h n
    show sumN g n + g n ≤ _
    omega
theorem Cnt.small {c : Nat → Int} {len : Nat} {s t M : Nat → Nat} {r k : Nat} (h : Cnt c len s t M r k) (p : Nat) (hp : p < (pos c len).length) : M (s p) ≤ r + 1 := by
  rw [h.at_ p hp]
  have := sum_le (fun x => if p < t x then 1 else 0) (fun x => by by_cases e : p < t x <;> simp [e]) r
  by_cases e : p < k
  · rw [if_pos e]; omega
  · rw [if_neg e]; omega
theorem Cnt.step {c : Nat → Int} {len : Nat} {s t M : Nat → Nat} {r k : Nat} (h : Cnt c len s t M r k) (re : Re 0 (pos c len).length (fun i => (pos c len).getD i 0) s) (hk : k < (pos c len).length) : Cnt c len s t (fun x => if x = s k then M (s k) + 1 else M x) r (k + 1) := by
  refine ⟨fun p hp => ?_, fun x hx hn => ?_⟩
  · by_cases e : p = k
    · subst e
      show (if s p = s p then _ else _) = _
      rw [if_pos rfl, h.at_ p hp, if_neg (by omega), if_pos (by omega)]
    · show (if s p = s k then _ else _) = _
      rw [if_neg (fun e2 => e (re_inj re hp hk e2)), h.at_ p hp]
      by_cases e2 : p < k
      · rw [if_pos e2, if_pos (by omega)]
      · rw [if_neg e2, if_neg (by omega)]
  · show (if x = s k then _ else _) = _
    rw [if_neg (fun e => hn k hk e.symm)]
    exact h.none x hx hn
theorem Cnt.next {c : Nat → Int} {len : Nat} {s t M : Nat → Nat} {r : Nat} (h : Cnt c len s t M r (t r)) : Cnt c len s t M (r + 1) 0 := by
  refine ⟨fun p hp => ?_, h.none⟩
  rw [h.at_ p hp, if_neg (Nat.not_lt_zero p)]
  rfl
/-- What size.Best answers. -/
structure Gives (c : Nat → Int) (len m : Nat) (w : World) (e : Ending) (w' : World) : Prop where
  ex : ∃ u s M, e = .returned (.tuple #[u, .int .i64 0]) ∧ (∃ b, u = .slice (some ⟨b, 0, none⟩) len len ∧ w.heap.size ≤ b) ∧ Ints .i64 w' u len (fun i => ((M i : Nat) : Int)) ∧ Lns c len m s M ∧ Below w.heap.size w w'
set_option maxRecDepth 20000 in
set_option maxHeartbeats 4000000 in
theorem bst_ok (hpar : ParOk) (v : Value) (len m : Nat) (c : Nat → Int) (w : World) (src : Ints .i64 w v len c) (hl : len ≤ 4096) (ok : Okc c len) (hm : 1 ≤ m) (hm2 : m ≤ 15) (hn : (pos c len).length ≤ 2 ^ m) :
    Calls Tryz.prog 89 #[v, .int .i64 m] w fun e w' => Gives c len m w e w' := by
  have SRC := hide src
  have OK := hide ok
  have PAR := hide hpar
  have CG := hide (good13 v len c hl w src)
  have CR := hide (ris14 v len c hl w src ok)
  have okb := (okB_iff c len).2 ok
  rw [okb] at CG
  obtain ⟨a, cap, rfl, _⟩ := src
  have hm' : ¬ (m : Int) < 1 := by omega
  have hm2' : ¬ (15 : Int) < (m : Int) := by omega
  obtain ⟨xs, hxs⟩ : ∃ xs, xs = sRow (fun _ => .int .i64 0) len := ⟨_, rfl⟩
  have hmk : ∀ w, (Instr.makeSlice 26 (.int .i64 len) (.int .i64 len)).run Tryz.prog w = .ok (.slice (some ⟨w.heap.size, 0, none⟩) len len) (w.alloc (.cells xs 3)) := fun w => by
    rw [hxs]
    exact make_ints w len (by omega)
  have HX := hide hxs
  have pl := pos_len c len
  obtain ⟨P, hP⟩ : ∃ P : Nat, wrap64 ((2 : Int) ^ m) = (P : Int) ∧ P = 2 ^ m := ⟨2 ^ m, by
    have h1 : 2 ^ m ≤ 2 ^ 15 := Nat.pow_le_pow_right (by omega) hm2
    have e : ((2 ^ m : Nat) : Int) = (2 : Int) ^ m := by simp
    rw [← e]
    generalize 2 ^ m = z at *
    simp [wrap64]
    omega, rfl⟩
  obtain ⟨hP, hP2⟩ := hP
  have hnP : ¬ (P : Int) < (((pos c len).length : Nat) : Int) := by omega
  have HN := hide hn
  clear ok okb hpar hxs hP2 hn
  go_enter Tryz.func89, Tryz.ntmps89
  go_wp2_with fail
  refine (unhide CG).mono ?_
  rintro e w0 ⟨rfl, rfl⟩
  go_wp2_with fail
  refine (unhide CR).mono ?_
  rintro e w1 ⟨u, s, rfl, rose⟩
  have RO := hide rose
  obtain ⟨ua, ucap, rfl, hroom⟩ := rose.room
  have LE0 := hide (show Len w1 (w1.alloc (.cells xs 3)) len (fun _ => 0) from ⟨by rw [unhide HX]; exact Box.made w1 3 _, (Below.refl _ w1).alloc (Nat.le_refl _) _⟩)
  by_cases h1 : (pos c len).length = 1
  · obtain ⟨ia, icap, e, hi⟩ := rose.ints
    cases e
    obtain ⟨b, off, rfl, hc⟩ := hi 0 (by omega)
    have hsl := (re_pos rose.re (i := 0) (by omega)).1
    have x0 : xs[s 0]? = some (.int .i64 0) := by rw [unhide HX, sRow_at _ _ _ hsl]
    have hbl := lt_of_cell hc
    have hs' : ((s 0 : Nat) : Int) < (len : Int) := by omega
    have LN := hide (show Lns c len m s (fun x => if x = s 0 then 1 else 0) from ⟨rose.re, rose.up, fun _ => if_pos rfl, fun h => absurd h1 h, fun x hx hn => if_neg (fun e => hn 0 (by omega) e.symm)⟩)
    have BEL := hide rose.bel
    have BX := hide (show Len w1 (w1.alloc (.cells (xs.setIfInBounds (s 0) (.int .i64 1)) 3)) len (fun x => if x = s 0 then 1 else 0) from by
      refine ⟨?_, (Below.refl _ w1).alloc (Nat.le_refl _) _⟩
      rw [unhide HX, sRow_set, sRow_congr (g := fun r => .int .i64 (((if r = s 0 then 1 else 0 : Nat)) : Int)) (fun r _ => by by_cases e : r = s 0 <;> simp [e])]
      exact Box.made w1 3 _)
    have H1 := hide h1
    have hc' : w1.cell? ⟨b, off, none⟩ = some (.int .i64 ((s 0 : Nat) : Int)) := by simpa using hc
    clear rose CR CG hi hc
    generalize s 0 = s0 at *
    go_wp2
    go_ret2
    exact ⟨_, s, _, rfl, ⟨_, rfl, (unhide BEL).size⟩, (unhide BX).ints _, unhide LN, (unhide BEL).trans ((unhide BX).bel.mono (unhide BEL).size)⟩
  · have h1' : ((((pos c len).length : Nat) : Int) == 1) = false := beq_eq_false_iff_ne.2 (by omega)
    have B1 := hide (show Below w1.heap.size w1 (w1.alloc (.cells xs 3)) from (Below.refl _ w1).alloc (Nat.le_refl _) _)
    have CW := hide (wei16 _ _ len (pos c len).length c (fun i => (s i : Int)) (w1.alloc (.cells xs 3)) (((unhide SRC).keep rose.bel).keep (unhide B1)) (rose.ints.keep (unhide B1)) (fun i hi => by have := (re_pos rose.re hi).1; omega) (by omega))
    clear rose CR CG
    go_wp2_with fail
    refine (unhide CW).mono ?_
    rintro e w2 ⟨r2, rfl, i2, b2⟩
    have SY := hide (sym_of (unhide RO).re (unhide RO).up)
    have CS := hide (shr15 (unhide PAR) r2 _ m w2 i2 (unhide SY) (by rw [wts_len]; omega) hm hm2 (by rw [wts_len]; exact unhide HN) (by rw [wts_len]; exact h1) (row_max15 (fun x hx => by
      simp only [wts, List.mem_map, List.mem_range] at hx
      obtain ⟨i, hi, rfl⟩ := hx
      exact (unhide OK _ (by simpa using (re_pos (unhide RO).re hi).1)).2)))
    rw [wts_len] at CS
    have B2 := hide b2
    clear i2 b2 CW
    go_wp2_with fail
    refine (unhide CS).mono ?_
    rintro e w3 ⟨g, rfl, hg1, hg2, i3, b3⟩
    have B3 := hide (show Below (w1.alloc (.cells xs 3)).heap.size (w1.alloc (.cells xs 3)) w3 from (unhide B2).trans (b3.mono (unhide B2).size))
    have LE3 := hide (show Len w1 w3 len (fun _ => 0) from ⟨(unhide LE0).box.below (unhide B3) (unhide LE0).box.lt, (unhide LE0).bel.trans ((unhide B3).mono (unhide LE0).bel.size)⟩)
    have hgl : w1.heap.size < g := by
      have h5 := (unhide B2).size
      rw [World.size_alloc] at h5
      omega
    have I3 := hide i3
    have SPL := hide (show ∀ r, r < m → sprd (wts c (fun i => (s i : Int)) (pos c len).length) (m - 1) (2 * (pos c len).length - 2) r ≤ (pos c len).length from fun r hr => by
      have := spr_le (unhide SY) (m - 1) (2 * (pos c len).length - 2) r (by
        have := row_enough (wts c (fun i => (s i : Int)) (pos c len).length) (m - 1) (by rw [wts_len, show m - 1 + 1 = m by omega]; exact unhide HN)
        rwa [wts_len] at this) (by omega)
      rwa [wts_len] at this)
    generalize ht : (fun r => sprd (wts c (fun i => (s i : Int)) (pos c len).length) (m - 1) (2 * (pos c len).length - 2) r) = t at *
    have HT := hide ht
    have I4 := hide (show ∀ k, k < m → w3.cell? ⟨g, k, none⟩ = some (.int .i64 ((t k : Nat) : Int)) from fun k hk => by rw [← ht]; exact unhide I3 k hk)
    have SP4 := hide (show ∀ r, r < m → t r ≤ (pos c len).length from fun r hr => by rw [← ht]; exact unhide SPL r hr)
    clear i3 b3 CS hg1 I3 SPL ht B1 B2 LE0
    go_wp2
    go_loopw [48] (fun x wr => ∃ (r : Nat) (M : Nat → Nat), r ≤ m ∧ x = .int .i64 r ∧ Len w1 wr len M ∧ Cnt c len s t M r 0 ∧ Upd (fun k => k = w1.heap.size) w3 wr) (fun x _ => m - (intOf x).toNat)
    case atStart =>
      exact ⟨0, fun _ => 0, Nat.zero_le _, rfl, unhide LE3, ⟨fun p _ => by simp [sumN], fun _ _ _ => rfl⟩, Upd.refl _ w3⟩
    case round =>
      obtain ⟨r, M, hr, rfl, ln, cn, u⟩ := hrel
      have LN := hide ln
      have CN := hide cn
      have UU := hide u
      by_cases hlt : r < m
      · have hlt' : (r : Int) < (m : Int) := by omega
        have ct := (u.cell (p := ⟨g, r, none⟩) hg2 (fun e => by simp at e; omega)).trans (unhide I4 r hlt)
        have htr := unhide SP4 r hlt
        have htc : ((t r : Nat) : Int) ≤ (ucap : Int) := by omega
        clear ln cn u
        go_wp2
        go_loopw [56] (fun x wi => ∃ (k : Nat) (M : Nat → Nat), k ≤ t r ∧ x = .int .i64 k ∧ Len w1 wi len M ∧ Cnt c len s t M r k ∧ Upd (fun k => k = w1.heap.size) w3 wi) (fun x _ => t r - (intOf x).toNat)
        case atStart => exact ⟨0, M, Nat.zero_le _, rfl, unhide LN, unhide CN, unhide UU⟩
        case round =>
          clear LN CN UU ct
          obtain ⟨k, M, hk, rfl, ln, cn, u⟩ := hrel
          have LN := hide ln
          have CN := hide cn
          have UU := hide u
          by_cases hlk : k < t r
          · have hlk' : (k : Int) < ((t r : Nat) : Int) := by omega
            obtain ⟨ia, icap, e, hi⟩ := (unhide RO).ints
            cases e
            obtain ⟨b, off, rfl, hc⟩ := hi k (by omega)
            have hc' : wr.cell? ⟨b, off + k, none⟩ = some (.int .i64 ((s k : Nat) : Int)) := (ln.bel.cell (p := ⟨b, off + k, none⟩) (lt_of_cell hc)).trans hc
            have hsl := (re_pos (unhide RO).re (i := k) (by omega)).1
            have hs' : ((s k : Nat) : Int) < (len : Int) := by omega
            have cs := (ln.box.cell (s k)).trans (sRow_at _ _ _ hsl)
            have fs := ln.box.free (s k)
            have hsm := cn.small k (by omega)
            have PUT := hide (ln.put (s k) (M (s k) + 1))
            have STP := hide (cn.step (unhide RO).re (by omega))
            clear ln cn u hi hc
            generalize s k = sk at *
            generalize M sk = z at *
            go_wp2
            go_roundw
            case rel =>
              refine ⟨k + 1, _, by omega, by go_num, ?_, unhide STP, (unhide UU).setCell (p := ⟨w1.heap.size, sk, none⟩) rfl _⟩
              have := unhide PUT
              rw [show ((z + 1 : Nat) : Int) = (z : Int) + 1 by omega] at this
              exact this
            case measure => simp [intOf]; omega
          · obtain rfl : k = t r := by omega
            have hnl : ¬ ((t r : Nat) : Int) < ((t r : Nat) : Int) := by omega
            clear ln cn u hlk
            go_wp2
            go_roundw
            case rel => exact ⟨r + 1, M, by omega, by go_num, unhide LN, (unhide CN).next, unhide UU⟩
            case measure => simp [intOf]; omega
      · obtain rfl : r = m := by omega
        have hnl : ¬ (r : Int) < (r : Int) := by omega
        have LNS := hide (show Lns c len r s M from ⟨(unhide RO).re, (unhide RO).up, fun h => absurd h h1, fun _ p hp => by
          rw [cn.at_ p hp, if_neg (Nat.not_lt_zero p), Nat.add_zero, ← unhide HT], cn.none⟩)
        have BEL := hide ((unhide RO).bel.trans (ln.bel.mono (unhide RO).bel.size))
        clear ln cn u hlt
        go_wp2
        go_ret2
        exact ⟨_, s, M, rfl, ⟨_, rfl, (unhide RO).bel.size⟩, (unhide LN).ints _, unhide LNS, unhide BEL⟩
end Go.Proofs.YtgjpcjnhggcfdaaGreatDoor.ZBst

namespace Go.Proofs.YtgjpcjnhggcfdaaGreatDoor.ZFin
open Go.Proofs.YtgjpcjnhggcfdaaGreatDoor.ZSrt Go.Proofs.YtgjpcjnhggcfdaaGreatDoor.ZRis Go.Proofs.YtgjpcjnhggcfdaaGreatDoor.ZRis2 Go.Proofs.YtgjpcjnhggcfdaaGreatDoor.ZItm Go.Proofs.YtgjpcjnhggcfdaaGreatDoor.ZMrg Go.Proofs.YtgjpcjnhggcfdaaGreatDoor.ZPur Go.Proofs.YtgjpcjnhggcfdaaGreatDoor.ZSpr Go.Proofs.YtgjpcjnhggcfdaaGreatDoor.ZBst

theorem sumN_add (g h : Nat → Nat) : ∀ n, sumN (fun k => g k + h k) n = sumN g n + sumN h n
  | 0 => rfl
  | n + 1 => by
    have := sumN_add g h n
    simp only [sumN]
    omega
theorem sumZ_add (g h : Nat → Int) : ∀ n, sumZ (fun k => g k + h k) n = sumZ g n + sumZ h n
  | 0 => rfl
  | n + 1 => by
    have := sumZ_add g h n
    simp only [sumZ]
    omega
theorem sumN_zero : ∀ n, sumN (fun _ => 0) n = 0
  | 0 => rfl
  | n + 1 => by rw [sumN, sumN_zero n]
theorem sumZ_zero : ∀ n, sumZ (fun _ => 0) n = 0
  | 0 => rfl
  | n + 1 => by rw [sumZ, sumZ_zero n]; rfl
theorem sumN_swap (f : Nat → Nat → Nat) (m : Nat) : ∀ n, sumN (fun p => sumN (fun r => f p r) m) n = sumN (fun r => sumN (fun p => f p r) n) m
  | 0 => by simp only [sumN]; rw [sumN_zero]
  | n + 1 => by
    have := sumN_swap f m n
    simp only [sumN]
    rw [this, sumN_add]
theorem sumZ_swap (f : Nat → Nat → Int) (m : Nat) : ∀ n, sumZ (fun p => sumZ (fun r => f p r) m) n = sumZ (fun r => sumZ (fun p => f p r) n) m
  | 0 => by simp only [sumZ]; rw [sumZ_zero]
  | n + 1 => by
    have := sumZ_swap f m n
    simp only [sumZ]
    rw [this, sumZ_add]
theorem sumN_ind (t x : Nat) : ∀ n, t ≤ n → sumN (fun p => if p < t then x else 0) n = t * x
  | 0, h => by
    have : t = 0 := by omega
    subst this
    simp [sumN]
  | n + 1, h => by
    by_cases e : t ≤ n
    · rw [sumN, sumN_ind t x n e, if_neg (by omega), Nat.add_zero]
    · have e2 : t = n + 1 := by omega
      have h1 := sumN_ind n x n (Nat.le_refl _)
      have h2 : sumN (fun p => if p < t then x else 0) n = sumN (fun p => if p < n then x else 0) n := sumN_congr n (fun k hk => by rw [if_pos hk, if_pos (by omega)])
      rw [sumN, h2, h1, if_pos (by omega), e2, Nat.add_mul, Nat.one_mul]
theorem sumN_mul (g : Nat → Nat) (z : Nat) : ∀ n, sumN (fun k => g k * z) n = sumN g n * z
  | 0 => by simp [sumN]
  | n + 1 => by rw [sumN, sumN, sumN_mul g z n, Nat.add_mul]
theorem sumN_le {g h : Nat → Nat} : ∀ n, (∀ k, k < n → g k ≤ h k) → sumN g n ≤ sumN h n
  | 0, _ => Nat.le_refl _
  | n + 1, e => by
    have h1 := sumN_le n (fun k hk => e k (by omega))
    have h2 := e n (by omega)
    simp only [sumN]
    omega
theorem sumZ_le {g h : Nat → Int} : ∀ n, (∀ k, k < n → g k ≤ h k) → sumZ g n ≤ sumZ h n
  | 0, _ => Int.le_refl _
  | n + 1, e => by
    have h1 := sumZ_le n (fun k hk => e k (by omega))
    have h2 := e n (by omega)
    simp only [sumZ]
    omega
theorem sumZ_mul (g : Nat → Int) (z : Int) : ∀ n, sumZ (fun k => g k * z) n = sumZ g n * z
  | 0 => by simp [sumZ]
  | n + 1 => by rw [sumZ, sumZ, sumZ_mul g z n, Int.add_mul]
/-- A row of noughts, then of ones. -/
theorem wide_one (b : Nat → Prop) (hd : ∀ r, Decidable (b r)) : ∀ m, (∀ r, r + 1 < m → b r → b (r + 1)) → sumN (fun r => if b r then 2 ^ r else 0) m + 2 ^ (m - sumN (fun r => if b r then 1 else 0) m) = 2 ^ m ∧ sumN (fun r => if b r then 1 else 0) m ≤ m
  | 0, _ => by simp [sumN]
  | m + 1, h => by
    obtain ⟨ih, ihl⟩ := wide_one b hd m (fun r hr => h r (by omega))
    by_cases e : b m
    · simp only [sumN, if_pos e]
      generalize sumN (fun r => if b r then 1 else 0) m = q at *
      rw [show m + 1 - (q + 1) = m - q by omega, Nat.pow_succ]
      omega
    · have hall : ∀ j r, r + j = m → ¬ b r := by
        intro j
        induction j with
        | zero => intro r hr; rw [show r = m by omega]; exact e
        | succ j ihj =>
          intro r hr hb
          exact ihj (r + 1) (by omega) (h r (by omega) hb)
      have z1 : sumN (fun r => if b r then 1 else 0) m = 0 := by
        rw [sumN_congr m (h := fun _ => 0) (fun k hk => if_neg (hall (m - k) k (by omega)))]
        exact sumN_zero m
      have z2 : sumN (fun r => if b r then 2 ^ r else 0) m = 0 := by
        rw [sumN_congr m (h := fun _ => 0) (fun k hk => if_neg (hall (m - k) k (by omega)))]
        exact sumN_zero m
      simp only [sumN, if_neg e, z1, z2]
      simp
/-- What may be said of the lengths, by the symbols' order. -/
structure Good6 (n m : Nat) (w : Nat → Int) (L : Nat → Nat) (cost : Int) : Prop where
  pos : ∀ p, p < n → 1 ≤ L p ∧ L p ≤ m
  ord : ∀ p q, p < q → q < n → L q ≤ L p
  full : sumN (fun p => 2 ^ (m - L p)) n = 2 ^ m
  cost : sumZ (fun p => w p * (L p : Int)) n = cost
theorem pre_sum (S : List It) : ∀ t, t ≤ S.length → pre S t = sumZ (fun p => (at_ S p).1) t
  | 0, _ => by simp [pre, sumZ, wsum]
  | t + 1, h => by
    have := pre_sum S t (by omega)
    unfold pre at *
    rw [List.take_succ_eq_append_getElem (by omega), wsum_app, this, sumZ, at_get (by omega)]
    simp [wsum]
theorem sumZ_ind (g : Nat → Int) (t : Nat) : ∀ n, t ≤ n → sumZ (fun p => if p < t then g p else 0) n = sumZ g t
  | 0, h => by
    have : t = 0 := by omega
    subst this
    rfl
  | n + 1, h => by
    by_cases e : t ≤ n
    · rw [sumZ, sumZ_ind g t n e, if_neg (by omega), Int.add_zero]
    · have e2 : t = n + 1 := by omega
      subst e2
      exact sumZ_congr _ (fun k hk => if_pos hk)
theorem good6 {S : List It} (h : Sym S) (m : Nat) (h2 : 2 ≤ S.length) (hm : 1 ≤ m) (hn : S.length ≤ 2 ^ m) :
    Good6 S.length m (fun p => (at_ S p).1) (fun p => sumN (fun r => if p < sprd S (m - 1) (2 * S.length - 2) r then 1 else 0) m) (wsum ((rowI S (m - 1)).take (2 * S.length - 2))) := by
  have hk : 2 * S.length - 2 ≤ (rowI S (m - 1)).length := row_enough S (m - 1) (by rw [show m - 1 + 1 = m by omega]; exact hn)
  have mono := fun r hr => spr_mono h (m - 1) (2 * S.length - 2) r hk hr
  have le := fun r hr => spr_le h (m - 1) (2 * S.length - 2) r hk hr
  have wide := spr_wide h (m - 1) (2 * S.length - 2) hk
  have cost := spr_cost h (m - 1) (2 * S.length - 2) hk
  have top : sprd S (m - 1) (2 * S.length - 2) (m - 1) = S.length := by rw [sprd_top]; exact tk_all h h2 (m - 1) hk
  rw [show m - 1 + 1 = m by omega] at wide cost
  generalize sprd S (m - 1) (2 * S.length - 2) = T at *
  have one := fun p => wide_one (fun r => p < T r) (fun r => Nat.decLt _ _) m (fun r hr hb => by have := mono r (by omega); omega)
  refine ⟨fun p hp => ⟨?_, (one p).2⟩, fun p q hpq hq => ?_, ?_, ?_⟩
  · obtain ⟨u, rfl⟩ : ∃ u, m = u + 1 := ⟨m - 1, by omega⟩
    rw [show u + 1 - 1 = u by omega] at top
    show 1 ≤ sumN _ u + (if p < T u then 1 else 0)
    rw [if_pos (by omega)]
    omega
  · refine sumN_le m (fun k _ => ?_)
    by_cases e : q < T k
    · rw [if_pos e, if_pos (by omega)]; exact Nat.le_refl _
    · rw [if_neg e]; exact Nat.zero_le _
  · have e1 : sumN (fun p => sumN (fun r => if p < T r then 2 ^ r else 0) m) S.length + sumN (fun p => 2 ^ (m - sumN (fun r => if p < T r then 1 else 0) m)) S.length = S.length * 2 ^ m := by
      rw [← sumN_add, sumN_congr S.length (h := fun p => if p < S.length then 2 ^ m else 0) (fun p hp => by rw [if_pos hp]; exact (one p).1)]
      exact sumN_ind _ _ _ (Nat.le_refl _)
    rw [sumN_swap, sumN_congr m (h := fun r => T r * 2 ^ r) (fun r hr => sumN_ind (T r) (2 ^ r) S.length (le r (by omega))), wide] at e1
    have e2 : 2 ^ m = 2 * 2 ^ (m - 1) := by rw [← Nat.pow_succ', show (m - 1).succ = m by omega]
    obtain ⟨u, hu⟩ : ∃ u, S.length = u + 2 := ⟨S.length - 2, by omega⟩
    have e3 : (2 * S.length - 2) * 2 ^ (m - 1) = S.length * 2 ^ m - 2 ^ m := by
      rw [e2, hu, show 2 * (u + 2) - 2 = (u + 1) * 2 by omega, Nat.mul_assoc, show u + 2 = (u + 1) + 1 by omega, Nat.add_mul (u + 1) 1]
      omega
    have e4 : 2 ^ m ≤ S.length * 2 ^ m := Nat.le_mul_of_pos_left _ (by omega)
    omega
  · rw [cost, sumZ_congr m (h := fun r => sumZ (fun p => if p < T r then (at_ S p).1 else 0) S.length) (fun r hr => by
        rw [pre_sum S _ (le r (by omega)), sumZ_ind _ _ _ (le r (by omega))]), ← sumZ_swap]
    refine sumZ_congr _ (fun p hp => ?_)
    have e5 : ∀ (a : Int) (q : Nat), a * ((sumN (fun r => if p < T r then 1 else 0) q : Nat) : Int) = sumZ (fun r => if p < T r then a else 0) q := fun a q => by
      induction q with
      | zero => simp [sumN, sumZ]
      | succ q ih =>
        rw [sumN, sumZ, ← ih]
        by_cases e : p < T q
        · rw [if_pos e, if_pos e, Int.natCast_add, Int.mul_add]; simp
        · rw [if_neg e, if_neg e]; simp
    exact e5 _ m
end Go.Proofs.YtgjpcjnhggcfdaaGreatDoor.ZFin
