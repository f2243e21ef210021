/-
  Contracts: package lens, writing: which symbols have a length, lengths of one alone; a writer that is new. Conditions: the slice reads as integers, and they are few.
  Contracts: package lens, writing: how many lengths are the same, which symbol tells them. Conditions: the slice reads as integers, and they are few.
  Contracts: package lens, writing: which symbol tells the lengths that come next. Conditions: the slice reads as integers, and they are few.
  Contracts: package lens, reading: one step; all steps; one symbol or two by hand. Conditions: the bits are there.
  Contracts: package lens, reading: all steps. Conditions: the bits are there, and tell lengths well.
-/
import Derived.Test.YtaidboopcoaeeaaDoorC06
import Derived.Test.YtaidboopcoaeeaaDoorC08
import Derived.Test.YtaidboopcoaeeaaDoorC05
namespace Go.Proofs.YtaidboopcoaeeaaDoor.Wra
open Go.ChangeShapes Go.WideShapes Go.ChangeAt Go.RowKit Go.Proofs.YtaidboopcoaeeaaDoor.Core Go.Proofs.YtaidboopcoaeeaaDoor.Gnd Go.Proofs.YtaidboopcoaeeaaDoor.Math Go.Proofs.YtaidboopcoaeeaaDoor.Dec Go.Proofs.YtaidboopcoaeeaaDoor.Ord Go.Proofs.YtaidboopcoaeeaaDoor.Lsp Go.Proofs.YtaidboopcoaeeaaDoor.Foot Go.Proofs.YtaidboopcoaeeaaDoor.Add Go.Proofs.YtaidboopcoaeeaaDoor.Wri

/-- A writer that lies in blocks from H on. -/
structure Nw (H : Nat) (w wr : World) (gw : Nat) (u : Value) (V N : Nat) : Prop where
  wri : Wr wr gw u V N
  ft : ∀ b, Ft gw u b → H ≤ b
  bel : Below H w wr
  hH : H ≤ w.heap.size
theorem Nw.put {H : Nat} {w wr w' : World} {gw : Nat} {u u' : Value} {V N V' N' m : Nat} (h : Nw H w wr gw u V N) (hw : Wr w' gw u' V' N') (t : Turn gw u u' m wr w') : Nw H w w' gw u' V' N' := by
  have hs := h.bel.size
  have hH := h.hH
  refine ⟨hw, fun b hb => ?_, h.bel.trans (t.upd.below H (by omega) h.ft), hH⟩
  rcases hb with rfl | hb
  · exact h.ft _ (.inl rfl)
  · rcases t.stays.foot b hb with h1 | h1
    · exact h.ft b (.inr h1)
    · omega
theorem Nw.keep {H : Nat} {w wr w' : World} {gw : Nat} {u : Value} {V N : Nat} (h : Nw H w wr gw u V N) (b : Below wr.heap.size wr w') : Nw H w w' gw u V N := by
  have hs := h.bel.size
  have hH := h.hH
  exact ⟨h.wri.keep (Upd.ofBelow (S := fun _ => False) b) (fun _ _ h => h), h.ft, h.bel.trans (b.mono (by omega)), hH⟩
theorem Nw.drewN {H : Nat} {w wr : World} {gw : Nat} {u : Value} {V N : Nat} (h : Nw H w wr gw u V N) (k : Nat) : Nw H w (wr.drewN k) gw u V N :=
  h.keep ⟨rfl, rfl, rfl, Nat.le_refl _, fun _ _ => rfl⟩
theorem nw_new (w : World) : Calls Tryd.prog 7 #[] w fun e w' => ∃ g u, e = .returned (.pointer (some ⟨g, 0, none⟩)) ∧ Nw w.heap.size w w' g u 0 0 := by
  refine (new8 w).mono ?_
  rintro e w' ⟨g, rfl, hg, wr, bel⟩
  exact ⟨g, _, rfl, wr, fun b hb => by rcases hb with rfl | hb; exact hg; simp [Value.ownBlock] at hb, bel, Nat.le_refl _⟩
theorem nw_bits {H : Nat} {w wr : World} {gw : Nat} {u : Value} {V N : Nat} (h : Nw H w wr gw u V N) (v n : Nat) (hn : n ≤ 32) (hv : v < 2 ^ n) (hN : N ≤ 1000000) :
    Calls Tryd.prog 11 #[.pointer (some ⟨gw, 0, none⟩), .int .u32 v, .int .i64 n] wr fun e w' => e = .returned (.bool true) ∧ ∃ u', Nw H w w' gw u' (V + v * 2 ^ N) (N + n) := by
  refine (bits_yes gw u V N v n wr h.wri hn hv hN).mono ?_
  rintro e w' ⟨rfl, u', hw, t⟩
  exact ⟨rfl, u', h.put hw t⟩

/-- The symbols that have a length. -/
def hav (c : Nat → Int) : Nat → List Nat
  | 0 => []
  | n + 1 => if c n = 0 then hav c n else hav c n ++ [n]
theorem hav_len (c : Nat → Int) : ∀ n, (hav c n).length = many c n
  | 0 => rfl
  | n + 1 => by
    have := hav_len c n
    show (if c n = 0 then hav c n else hav c n ++ [n]).length = many c n + if c n = 0 then 0 else 1
    split
    · omega
    · rw [List.length_append]; simp; omega
theorem hav_mem (c : Nat → Int) (x : Nat) : ∀ n, x ∈ hav c n ↔ x < n ∧ c x ≠ 0
  | 0 => by simp [hav]
  | n + 1 => by
    have ih := hav_mem c x n
    unfold hav
    split
    · next h =>
      rw [ih]
      constructor
      · rintro ⟨h1, h2⟩; exact ⟨by omega, h2⟩
      · rintro ⟨h1, h2⟩
        by_cases e : x = n
        · subst e; exact absurd h h2
        · exact ⟨by omega, h2⟩
    · next h =>
      rw [List.mem_append, ih, List.mem_singleton]
      constructor
      · rintro (⟨h1, h2⟩ | rfl)
        · exact ⟨by omega, h2⟩
        · exact ⟨by omega, h⟩
      · rintro ⟨h1, h2⟩
        by_cases e : x = n
        · exact .inr e
        · exact .inl ⟨by omega, h2⟩
def ncells (l : List Nat) : List Value := l.map fun (k : Nat) => Value.int .i64 (k : Int)
theorem ncells_at (l : List Nat) (i : Nat) (h : i < l.length) : (ncells l)[i]? = some (.int .i64 ((l.getD i 0 : Nat) : Int)) := by
  simp [ncells, h]
theorem ncells_one (k : Nat) : ∀ u ∈ [Value.int .i64 (k : Int)], u.oneCell' = true := by
  intro u hu; simp at hu; subst hu; rfl
structure Hat (w wr : World) (s : Value) (l : List Nat) : Prop where
  own : wr.ownsRow w.heap.size 3 1 s l.length (ncells l)
  bel : Below w.heap.size w wr
theorem Hat.app {w wr w1 : World} {s s1 : Value} {l : List Nat} {k : Nat} {o : Obj} (h : Hat w wr s l) (own : w1.ownsRow w.heap.size 3 1 s1 (l.length + 1) (ncells l ++ [.int .i64 (k : Int)])) (gr : (wr.alloc o).grownBy w1 s.ownBlock) : Hat w w1 s1 (l ++ [k]) := by
  have hlt := h.own.lt
  refine ⟨?_, ?_⟩
  · rw [List.length_append]
    have : ncells (l ++ [k]) = ncells l ++ [.int .i64 (k : Int)] := by simp [ncells]
    rw [this]
    exact own
  · refine (h.bel.alloc h.bel.size o).grown gr ?_ (fun k e => (hlt k e).1)
    have := h.bel.size
    simp; omega
/-- A slice of symbols. -/
def Syms (w : World) (v : Value) (l : List Nat) : Prop :=
  (v = .slice none 0 0 ∧ l = []) ∨ ∃ g cap, v = .slice (some ⟨g, 0, none⟩) l.length cap ∧ l.length ≤ cap ∧ ∀ i, i < l.length → w.cell? ⟨g, i, none⟩ = some (.int .i64 ((l.getD i 0 : Nat) : Int))
theorem Hat.syms {w wr : World} {s : Value} {l : List Nat} (h : Hat w wr s l) : Syms wr s l := by
  have ho := h.own
  rcases ho.2 with ⟨rfl, e⟩ | ⟨g, cap, cur, rfl, b1, b2, b3, b4⟩
  · exact .inl ⟨rfl, List.eq_nil_of_length_eq_zero e⟩
  · exact .inr ⟨g, cap, rfl, b3, fun i hi => (ho.cellAt i (by omega)).trans (ncells_at l i hi)⟩
theorem Syms.keep {w w' : World} {v : Value} {l : List Nat} (h : Syms w v l) (u : Below w.heap.size w w') : Syms w' v l := by
  rcases h with h | ⟨g, cap, h1, h2, h3⟩
  · exact .inl h
  · exact .inr ⟨g, cap, h1, h2, fun i hi => (u.cell (p := ⟨g, i, none⟩) (lt_of_cell (h3 i hi))).trans (h3 i hi)⟩
set_option maxHeartbeats 2000000 in
theorem with18 (v : Value) (len : Nat) (c : Nat → Int) (hl : len ≤ 100000) (w : World) (src : Ints .i64 w v len c) :
    Calls Tryd.prog 18 #[v] w fun e w' => ∃ u, e = .returned u ∧ Syms w' u (hav c len) ∧ Below w.heap.size w w' := by
  have SRC := hide src
  obtain ⟨a, cap, rfl, hs⟩ := src
  obtain ⟨i0, hi0, hz0, hz1, hz2⟩ := info_parts Ord.info3
  clear hs
  go_enter Tryd.func18, Tryd.ntmps18
  go_wp2
  go_loopw [3, 8] (fun s i wr => ∃ k : Nat, k ≤ len ∧ i = .int .i64 k ∧ Hat w wr s (hav c k)) (fun _ i _ => len - (intOf i).toNat)
  case atStart => exact ⟨0, Nat.zero_le _, rfl, ⟨World.ownsRow_nil _ _ _ _, Below.refl _ w⟩⟩
  case round =>
    obtain ⟨k, hk, rfl, gat⟩ := hrel
    have GAT := hide gat
    have pl : (hav c k).length ≤ k := by rw [hav_len]; exact many_le c k
    by_cases hlt : k < len
    · have hlt' : (k : Int) < (len : Int) := by omega
      obtain ⟨a', cap', e', hs'⟩ := (unhide SRC).keep gat.bel
      cases e'
      obtain ⟨b, off, rfl, hcell⟩ := hs' k hlt
      clear gat hs'
      by_cases hp : c k = 0
      · have E1 := hide (show hav c (k + 1) = hav c k from by show (if c k = 0 then _ else _) = _; rw [if_pos hp])
        have hp' : (c k != 0) = false := by simp [hp]
        go_wp2
        go_roundw
        case rel => exact ⟨k + 1, by omega, by go_num, by rw [unhide E1]; exact unhide GAT⟩
        case measure => simp [intOf]; omega
      · have E1 := hide (show hav c (k + 1) = hav c k ++ [k] from by show (if c k = 0 then _ else _) = _; rw [if_neg hp])
        have hp' : (c k != 0) = true := by simp [hp]
        go_wp2_with (first | (at_builtin; refine wpList_append_own _ rfl (.tmp 15) (.tmp 17) 22 rfl w.heap.size 3 i0 (.int .i64 0) 1 8 Tryd.underlying22 hi0 hz0 hz1 hz2 rfl (by decide) _ (hav c k).length (ncells (hav c k)) rfl ((unhide GAT).own.alloc _) ⟨wr.heap.size, 0, none⟩ 1 1 [.int .i64 (k : Int)] rfl rfl (cell_one_new _ _ _) (ncells_one k) (by unfold maxLen; omega) (by omega) (by have := (unhide GAT).bel.size; simp; omega) ?_; intro v1 w1 own1 gr1 _; have GA1 := hide ((unhide GAT).app own1 gr1); clear own1 gr1) | fail)
        go_roundw
        case rel => exact ⟨k + 1, by omega, by go_num, by rw [unhide E1]; exact unhide GA1⟩
        case measure => simp [intOf]; omega
    · obtain rfl : k = len := by omega
      have hnl : ¬ (k : Int) < (k : Int) := by omega
      clear gat
      go_wp2
      go_ret
      exact ⟨_, rfl, (unhide GAT).syms, (unhide GAT).bel⟩
set_option maxHeartbeats 400000 in
theorem alone20 (s n : Nat) (w : World) (hs : s < n) (hn : n ≤ 100000) :
    Calls Tryd.prog 20 #[.int .i64 s, .int .i64 n] w fun e w' => ∃ g, e = .returned (.slice (some ⟨g, 0, none⟩) n n) ∧ w.heap.size ≤ g ∧ Box w' g 3 (nr (Lrh.by_hand s 0 false) n).toArray ∧ Below w.heap.size w w' := by
  obtain ⟨xs, hxs⟩ : ∃ xs, xs = (nr (fun _ => 0) n).toArray := ⟨_, rfl⟩
  have hmk : ∀ w, (Instr.makeSlice 22 (.int .i64 n) (.int .i64 n)).run Tryd.prog w = .ok (.slice (some ⟨w.heap.size, 0, none⟩) n n) (w.alloc (.cells xs 3)) := fun w => by rw [hxs]; exact make_ints w n (by omega)
  have hs' : (s : Int) < (n : Int) := by omega
  have c1 : xs[s]? = some (.int .i64 ((0 : Nat) : Int)) := by rw [hxs]; exact na_at _ _ _ hs
  have E2 := hide (show xs.setIfInBounds s (.int .i64 1) = (nr (Lrh.by_hand s 0 false) n).toArray from by rw [hxs]; exact Lrh.bh_one s 0 n)
  clear hxs
  go_enter Tryd.func20, Tryd.ntmps20
  go_wp2
  go_ret
  exact ⟨w.heap.size, rfl, Nat.le_refl _, by rw [← unhide E2]; exact Box.made w 3 _, (Below.refl _ w).alloc (Nat.le_refl _) _⟩
end Go.Proofs.YtaidboopcoaeeaaDoor.Wra

namespace Go.Proofs.YtaidboopcoaeeaaDoor.Wrc
open Go.ChangeShapes Go.WideShapes Go.ChangeAt Go.RowKit Go.Proofs.YtaidboopcoaeeaaDoor.Core Go.Proofs.YtaidboopcoaeeaaDoor.Gnd Go.Proofs.YtaidboopcoaeeaaDoor.Math Go.Proofs.YtaidboopcoaeeaaDoor.Dec Go.Proofs.YtaidboopcoaeeaaDoor.Ord Go.Proofs.YtaidboopcoaeeaaDoor.Lsp Go.Proofs.YtaidboopcoaeeaaDoor.Rsa

/-- How many are the same as the first, from it on. -/
structure Same (c : Nat → Nat) (n r : Nat) : Prop where
  pos : 1 ≤ r
  le : r ≤ n
  eq : ∀ j, j < r → c j = c 0
  ne : r < n → c r ≠ c 0
theorem Same.one {c : Nat → Nat} {n r s : Nat} (h : Same c n r) (k : Same c n s) : r = s := by
  rcases Nat.lt_trichotomy r s with e | e | e
  · exact absurd (k.eq r e) (h.ne (by have := k.le; omega))
  · exact e
  · exact absurd (h.eq s e) (k.ne (by have := h.le; omega))
theorem same_ex (c : Nat → Nat) : ∀ n, 1 ≤ n → ∃ r, Same c n r
  | 0, h => by omega
  | 1, _ => ⟨1, Nat.le_refl _, Nat.le_refl _, fun j hj => by rw [show j = 0 by omega], fun h => by omega⟩
  | n + 2, _ => by
    obtain ⟨r, h⟩ := same_ex c (n + 1) (by omega)
    by_cases h1 : r < n + 1
    · exact ⟨r, h.pos, by omega, h.eq, fun _ => h.ne h1⟩
    · by_cases h2 : c r = c 0
      · refine ⟨r + 1, by omega, by have := h.le; omega, fun j hj => ?_, fun h3 => by have := h.le; omega⟩
        by_cases e : j = r
        · rw [e, h2]
        · exact h.eq j (by omega)
      · exact ⟨r, h.pos, by have := h.le; omega, h.eq, fun _ => h2⟩
set_option maxHeartbeats 1000000 in
theorem run51 (v : Value) (len r : Nat) (c : Nat → Nat) (hl : len ≤ 100000) (hr : Same c len r) (w : World) (src : Ints .i64 w v len (fun k => (c k : Int))) :
    Calls Tryd.prog 51 #[v] w fun e w' => e = .returned (.int .i64 r) ∧ ∃ q, w' = w.drewN q := by
  obtain ⟨a, cap, rfl, hs⟩ := src
  have SRC := hide hs
  have HR := hide hr
  have h1 := hr.pos
  have h2 := hr.le
  clear hs hr
  go_enter Tryd.func51, Tryd.ntmps51
  go_wp2
  go_loopw [3] (fun i wr => ∃ k q : Nat, 1 ≤ k ∧ k ≤ r ∧ i = .int .i64 k ∧ wr = w.drewN q) (fun i _ => r - (intOf i).toNat)
  case atStart => exact ⟨1, 0, Nat.le_refl _, h1, rfl, rfl⟩
  case round =>
    obtain ⟨k, q, hk1, hk, rfl, rfl⟩ := hrel
    obtain ⟨b, off, rfl, d0⟩ := unhide SRC 0 (by omega)
    have e0 : (w.drewN q).cell? ⟨b, off, none⟩ = some (.int .i64 ((c 0 : Nat) : Int)) := by simpa using d0
    have DK := hide (fun (k : Nat) (hk : k < len) => show (w.drewN q).cell? ⟨b, off + k, none⟩ = some (.int .i64 ((c k : Nat) : Int)) from by
      obtain ⟨b', off', ea, dk⟩ := unhide SRC k hk
      cases ea
      exact dk)
    have hlen0 : (0 : Int) < (len : Int) := by omega
    clear d0
    generalize hwq : w.drewN q = wq at *
    have HW := hide hwq
    clear hwq
    by_cases hlt : k < len
    · have hlt' : (k : Int) < (len : Int) := by omega
      have ek := unhide DK k hlt
      by_cases hkr : k < r
      · have he : (((c k : Nat) : Int) == ((c 0 : Nat) : Int)) = true := by simp; have := (unhide HR).eq k hkr; omega
        generalize c k = ck at *
        generalize c 0 = cz at *
        go_wp2
        go_quiet (fail)
        go_wp2
        go_roundw
        case rel => exact ⟨k + 1, q + nq, by omega, by omega, by go_num, by rw [← Lrh.rfl_drew, unhide HW]⟩
        case measure => simp [intOf]; omega
      · obtain rfl : k = r := by omega
        have he : (((c k : Nat) : Int) == ((c 0 : Nat) : Int)) = false := by simp; have := (unhide HR).ne hlt; omega
        generalize c k = ck at *
        generalize c 0 = cz at *
        go_wp2
        go_quiet (fail)
        go_wp2
        go_ret
        exact ⟨rfl, q + nq, by rw [← Lrh.rfl_drew, unhide HW]⟩
    · obtain rfl : len = k := by omega
      obtain rfl : len = r := by omega
      have hnl : ¬ (len : Int) < (len : Int) := by omega
      go_wp2
      go_quiet (fail)
      go_wp2
      go_ret
      exact ⟨rfl, q + nq, by rw [← Lrh.rfl_drew, unhide HW]⟩
end Go.Proofs.YtaidboopcoaeeaaDoor.Wrc

namespace Go.Proofs.YtaidboopcoaeeaaDoor.Wsd
open Go.ChangeShapes Go.WideShapes Go.ChangeAt Go.RowKit Go.Proofs.YtaidboopcoaeeaaDoor.Core Go.Proofs.YtaidboopcoaeeaaDoor.Gnd Go.Proofs.YtaidboopcoaeeaaDoor.Math Go.Proofs.YtaidboopcoaeeaaDoor.Dec Go.Proofs.YtaidboopcoaeeaaDoor.Ord Go.Proofs.YtaidboopcoaeeaaDoor.Lsp Go.Proofs.YtaidboopcoaeeaaDoor.Rsa Go.Proofs.YtaidboopcoaeeaaDoor.Wrc

set_option maxHeartbeats 400000 in
theorem enough58 (B x r : Nat) (w : World) (h : w.cell? ⟨B, 0, none⟩ = some (.int .i64 r)) :
    Calls Tryd.prog 58 #[.int .i64 x, .pointer (some ⟨B, 0, none⟩)] w fun e w' => e = .returned (.bool (decide (bas x ≤ r))) ∧ w' = w := by
  have TM := hide (times49 x)
  have hb := bas_le x
  generalize bas x = bx at *
  generalize wid x = wx at *
  go_enter Tryd.func58, Tryd.ntmps58
  go_wp2_with fail
  refine (unhide TM w).mono ?_
  rintro e w1 ⟨rfl, rfl⟩
  go_wp2
  go_ret
  exact ⟨rfl, rfl⟩
/-- The symbol that tells r lengths c0, behind a last one. -/
def sy (c0 last r : Nat) : Nat := if c0 = 0 ∧ 11 ≤ r then 18 else if c0 = 0 ∧ 3 ≤ r then 17 else if c0 = last ∧ 3 ≤ r then 16 else c0
set_option maxHeartbeats 2000000 in
theorem symbol50 (v : Value) (len r last : Nat) (c : Nat → Nat) (hl : len ≤ 100000) (hr : Same c len r) (hla : last ≠ 0) (w : World) (src : Ints .i64 w v len (fun k => (c k : Int))) :
    Calls Tryd.prog 50 #[v, .int .i64 last] w fun e w' => e = .returned (.int .i64 (sy (c 0) last r)) ∧ Below w.heap.size w w' := by
  have h1 := hr.pos
  have h2 := hr.le
  have RUN := hide (run51 v len r c hl hr w src)
  obtain ⟨a, cap, rfl, hs⟩ := src
  obtain ⟨b, off, rfl, d0⟩ := hs 0 (by omega)
  have hb : b < w.heap.size := lt_of_cell d0
  have d0' : w.cell? ⟨b, off, none⟩ = some (.int .i64 ((c 0 : Nat) : Int)) := by simpa using d0
  have D0 := hide d0'
  have hlen0 : (0 : Int) < (len : Int) := by omega
  clear hs d0 d0' hr
  generalize c 0 = cz at *
  generalize hsy : sy cz last r = z
  have HSY := hide hsy
  clear hsy
  go_enter Tryd.func50, Tryd.ntmps50
  go_wp2_with fail
  refine (unhide RUN).mono ?_
  rintro e w1 ⟨rfl, q, hq⟩
  have e0 : w1.cell? ⟨b, off, none⟩ = some (.int .i64 (cz : Int)) := by rw [hq]; exact unhide D0
  have hb1 : b < w1.heap.size := by rw [hq]; exact hb
  have EN := hide (fun (x : Nat) => enough58 w1.heap.size x r (w1.alloc (.cells #[.int .i64 r] 3)) (by simp))
  have B1 : Below w.heap.size w w1 := by rw [hq]; exact ⟨rfl, rfl, rfl, Nat.le_refl _, fun _ _ => rfl⟩
  have BEL := hide (show Below w.heap.size w (w1.alloc (.cells #[.int .i64 r] 3)) from B1.alloc B1.size _)
  clear RUN D0 hq B1
  by_cases hz : cz = 0
  · subst hz
    have hzl : ((0 : Int) == (last : Int)) = false := by simp; omega
    by_cases h11 : 11 ≤ r
    · have hd : decide (bas 18 ≤ r) = true := decide_eq_true h11
      obtain rfl : 18 = z := by rw [← unhide HSY]; simp [sy, h11]
      go_wp2_with (first | (go_at_call 58; refine (unhide EN 18).mono ?_; rw [hd]; rintro e w3 ⟨rfl, rfl⟩) | fail)
      go_ret
      exact ⟨rfl, unhide BEL⟩
    · have hd : decide (bas 18 ≤ r) = false := decide_eq_false h11
      by_cases h3 : 3 ≤ r
      · have hd2 : decide (bas 17 ≤ r) = true := decide_eq_true h3
        obtain rfl : 17 = z := by rw [← unhide HSY]; simp [sy, h11, h3]
        go_wp2_with fail
        refine (unhide EN 18).mono ?_
        rw [hd]
        rintro e w3 ⟨rfl, rfl⟩
        go_wp2_with fail
        refine (unhide EN 17).mono ?_
        rw [hd2]
        rintro e w3 ⟨rfl, rfl⟩
        go_wp2
        go_ret
        exact ⟨rfl, unhide BEL⟩
      · have hd2 : decide (bas 17 ≤ r) = false := decide_eq_false h3
        obtain rfl : 0 = z := by rw [← unhide HSY]; simp [sy, h11, h3]
        go_wp2_with fail
        refine (unhide EN 18).mono ?_
        rw [hd]
        rintro e w3 ⟨rfl, rfl⟩
        go_wp2_with fail
        refine (unhide EN 17).mono ?_
        rw [hd2]
        rintro e w3 ⟨rfl, rfl⟩
        go_wp2
        go_ret
        exact ⟨rfl, unhide BEL⟩
  · have hz' : ((cz : Int) == 0) = false := by simp; omega
    by_cases hcl : cz = last
    · subst hcl
      have hzl : ((cz : Int) == (cz : Int)) = true := by simp
      by_cases h3 : 3 ≤ r
      · have hd2 : decide (bas 16 ≤ r) = true := decide_eq_true h3
        obtain rfl : 16 = z := by rw [← unhide HSY]; simp [sy, h3, hz]
        go_wp2_with (first | (go_at_call 58; refine (unhide EN 16).mono ?_; rw [hd2]; rintro e w3 ⟨rfl, rfl⟩) | fail)
        go_ret
        exact ⟨rfl, unhide BEL⟩
      · have hd2 : decide (bas 16 ≤ r) = false := decide_eq_false h3
        obtain rfl : cz = z := by rw [← unhide HSY]; simp [sy, h3, hz]
        go_wp2_with (first | (go_at_call 58; refine (unhide EN 16).mono ?_; rw [hd2]; rintro e w3 ⟨rfl, rfl⟩) | fail)
        go_ret
        exact ⟨rfl, unhide BEL⟩
    · have hzl : ((cz : Int) == (last : Int)) = false := by simp; omega
      obtain rfl : cz = z := by rw [← unhide HSY]; simp [sy, hz, hcl]
      go_wp2
      go_ret
      exact ⟨rfl, unhide BEL⟩
end Go.Proofs.YtaidboopcoaeeaaDoor.Wsd

namespace Go.Proofs.YtaidboopcoaeeaaDoor.Rsb
open Go.ChangeShapes Go.WideShapes Go.ChangeAt Go.RowKit Go.Proofs.YtaidboopcoaeeaaDoor.Core Go.Proofs.YtaidboopcoaeeaaDoor.Gnd Go.Proofs.YtaidboopcoaeeaaDoor.Math Go.Proofs.YtaidboopcoaeeaaDoor.Bitin Go.Proofs.YtaidboopcoaeeaaDoor.Eyes Go.Proofs.YtaidboopcoaeeaaDoor.Dec Go.Proofs.YtaidboopcoaeeaaDoor.Ord Go.Proofs.YtaidboopcoaeeaaDoor.Lsp Go.Proofs.YtaidboopcoaeeaaDoor.Tre Go.Proofs.YtaidboopcoaeeaaDoor.Trr Go.Proofs.YtaidboopcoaeeaaDoor.Rsa Go.Proofs.YtaidboopcoaeeaaDoor.Lrh

theorem nl_vv (s last : Nat) (hs : s < 19) (hl : last ≠ 0) : (if vv s last = 0 then last else vv s last) = nl s last := by
  unfold vv nl
  by_cases h1 : s < 16
  · rw [if_pos h1]
    by_cases h0 : s = 0
    · rw [if_pos h0, if_neg (by omega)]
    · rw [if_neg h0, if_pos ⟨by omega, h1⟩]
  · rw [if_neg h1]
    by_cases h2 : s = 16
    · rw [if_pos h2, if_neg hl, if_neg (by omega)]
    · rw [if_neg h2, if_pos rfl, if_neg (by omega)]
theorem nl_ne (s last : Nat) (hl : last ≠ 0) : nl s last ≠ 0 := by
  unfold nl; split <;> omega
set_option maxRecDepth 20000 in
set_option maxHeartbeats 1000000 in
/-- A step of symbol y, told by L bits, with x more. -/
theorem step55 (rl rh r bl s b n tl last i L y x lo hi g : Nat) (bc f : Nat → Nat) (c : Nat → Int) (hc : ∀ k, bc k ≤ 255) (hbl : bl ≤ 100000) (w : World) (h : So w rl rh r bl bc (some i) s b n tl last f) (hn : n ≤ 100000) (hla : last ≠ 0) (tr : Tr w lo hi g c 19) (hlo : rh ≤ lo)
    (nx : Nx c 19 (fun j => nb (num bc 0 bl) (i + j) 1) L y) (hx : nb (num bc 0 bl) (i + L) (wid y) = x) (hi8 : i + L + wid y ≤ 8 * bl) (hfit : tl + (bas y + x) ≤ n) :
    Calls Tryd.prog 55 #[.pointer (some ⟨s, 0, none⟩), .pointer (some ⟨g, 0, none⟩)] w fun e w' => e = .returned (.int .i64 0) ∧ So w' rl rh r bl bc (some (i + L + wid y)) s b n (tl + (bas y + x)) (nl y last) (fun j => if tl ≤ j ∧ j < tl + (bas y + x) then vv y last else f j) ∧ Upd (fun k => k = s ∨ k = b ∨ k = r) w w' := by
  have hne := h.ne
  have hy : y < 19 := nx.lt.1
  have c0 := h.box.cell 0
  have nx' : Nx c 19 (fun j => bt bc (i + j)) L y := nx_congr nx (fun j hj => nb_bt bc hc bl (i + j) (by omega))
  have RD := hide (read13 lo hi g 19 c rl rh r bl i L y bc hc (by omega) w tr h.rd (.inl (by omega)) (by omega) nx')
  have e1 : outV bl i L y = (y : Int) := by simp [outV]; omega
  have e2 : outE bl i L = 0 := by simp [outE]; omega
  have e3 : outS bl i L = some (i + L) := by simp [outS]; omega
  rw [e1, e2, e3] at RD
  have H := hide h
  have HX := hide hx
  have hw := wid_le y
  have hb1 := bas_le y
  have hxl : x < 128 := by
    have h1 := nb_lt (num bc 0 bl) (i + L) (wid y)
    have h2 : 2 ^ wid y ≤ 2 ^ 7 := Nat.pow_le_pow_right (by omega) hw
    omega
  have VN := hide (nl_vv y last hy hla)
  clear h nx nx' tr e1 e2 e3 hx
  generalize hbas : bas y = by_ at *
  generalize hwid : wid y = wy at *
  have TM := hide (times49 y)
  rw [hbas, hwid] at TM
  clear hbas hwid
  have LN := hide (fun (w' : World) (h : So w' rl rh r bl bc (some (i + L + wy)) s b n tl last f) => length67 s y last _ _ _ w' h.box hy)
  generalize vv y last = vy at *
  go_enter Tryd.func55, Tryd.ntmps55
  go_wp2_with fail
  refine (unhide RD).mono ?_
  rintro e w1 ⟨rfl, a1, u1⟩
  have H1 := hide ((unhide H).rdr a1 u1)
  have U1 := hide (u1.mono (T := fun k => k = s ∨ k = b ∨ k = r) (fun k _ hk => .inr (.inr hk)))
  clear a1 u1 RD c0 H
  go_wp2_with fail
  refine (unhide TM w1).mono ?_
  rintro e w2 ⟨rfl, rfl⟩
  go_wp2_with fail
  refine (number_at rl rh r bl s b n tl last wy (i + L) x bc f hc (by omega) w2 (unhide H1) (by omega) (by omega) (unhide HX)).mono ?_
  rintro e w3 ⟨rfl, so3, u3⟩
  have c30 := so3.box.cell 0
  have H3 := hide so3
  have U3 := hide ((unhide U1).trans (u3.mono (T := fun k => k = s ∨ k = b ∨ k = r) (fun k _ hk => .inr (.inr hk))))
  clear so3 u3 H1 U1
  go_wp2_with fail
  refine (over_step rl rh r bl _ bc w3 (unhide H3).rd).mono ?_
  rintro e w4 ⟨rfl, rfl⟩
  have c1 := (unhide H3).box.cell 1
  have c2 := (unhide H3).box.cell 2
  have t1 : decide ((n : Int) - (tl : Int) < (by_ : Int) + (x : Int)) = false := decide_eq_false (by omega)
  go_wp2_with fail
  go_quiet (fail)
  have H5 := hide ((unhide H3).drewN nq)
  have U5 := hide ((unhide U3).drewN nq)
  clear c1 c2 c30 H3 U3 t1
  generalize w4.drewN nq = w5 at *
  go_wp2_with fail
  refine (unhide LN w5 (unhide H5)).mono ?_
  rintro e w6 ⟨rfl, rfl⟩
  have TL := hide (tell66 rl rh r bl s b n tl last vy (by_ + x) bc f _ w6 (unhide H5) hn hfit)
  rw [unhide VN] at TL
  have e5 : ((by_ + x : Nat) : Int) = (by_ : Int) + (x : Int) := by omega
  rw [e5] at TL
  clear e5
  go_wp2_with fail
  refine (unhide TL).mono ?_
  rintro e w7 ⟨rfl, so7, u7⟩
  have H7 := hide so7
  have U7 := hide ((unhide U5).trans (u7.mono (T := fun k => k = s ∨ k = b ∨ k = r) (fun k _ hk => hk.elim .inl (fun h => .inr (.inl h)))))
  clear so7 u7 TL H5 U5
  go_wp2
  go_ret
  exact ⟨rfl, unhide H7, unhide U7⟩
theorem told_now (F : List Nat) (pre : List (Nat × Nat)) (y x last : Nat) (r : List (Nat × Nat)) (hF : told (pre ++ (y, x) :: r) 8 = F) (hla : lastOf pre 8 = last) (j : Nat) :
    (if (told pre 8).length ≤ j ∧ j < (told pre 8).length + (bas y + x) then vv y last else if j < (told pre 8).length then got F j else 0) = if j < (told pre 8).length + (bas y + x) then got F j else 0 := by
  subst hF hla
  rw [told_app]
  by_cases h1 : (told pre 8).length ≤ j ∧ j < (told pre 8).length + (bas y + x)
  · rw [if_pos h1, if_pos h1.2]
    show _ = got (told pre 8 ++ (List.replicate (bas y + x) (vv y (lastOf pre 8)) ++ told r (nl y (lastOf pre 8)))) j
    rw [got_here _ _ _ _ _ h1.1 h1.2]
  · rw [if_neg h1]
    by_cases h2 : j < (told pre 8).length
    · rw [if_pos h2, if_pos (by omega)]
    · rw [if_neg h2, if_neg (by omega)]
theorem told_next (pre : List (Nat × Nat)) (y x : Nat) : (told (pre ++ [(y, x)]) 8).length = (told pre 8).length + (bas y + x) ∧ lastOf (pre ++ [(y, x)]) 8 = nl y (lastOf pre 8) := by
  rw [told_app, last_app]
  simp [told, lastOf]
end Go.Proofs.YtaidboopcoaeeaaDoor.Rsb

namespace Go.Proofs.YtaidboopcoaeeaaDoor.Rsc
open Go.ChangeShapes Go.WideShapes Go.ChangeAt Go.RowKit Go.Proofs.YtaidboopcoaeeaaDoor.Core Go.Proofs.YtaidboopcoaeeaaDoor.Gnd Go.Proofs.YtaidboopcoaeeaaDoor.Math Go.Proofs.YtaidboopcoaeeaaDoor.Bitin Go.Proofs.YtaidboopcoaeeaaDoor.Eyes Go.Proofs.YtaidboopcoaeeaaDoor.Dec Go.Proofs.YtaidboopcoaeeaaDoor.Ord Go.Proofs.YtaidboopcoaeeaaDoor.Lsp Go.Proofs.YtaidboopcoaeeaaDoor.Tre Go.Proofs.YtaidboopcoaeeaaDoor.Trr Go.Proofs.YtaidboopcoaeeaaDoor.Rsa Go.Proofs.YtaidboopcoaeeaaDoor.Rsb

/-- What stands in the loop: the steps done, and those to come. -/
structure Rs (w wr : World) (rl rh r bl : Nat) (bc : Nat → Nat) (s b n q : Nat) (c : Nat → Int) (F : List Nat) (l pre post : List (Nat × Nat)) (i : Nat) : Prop where
  so : So wr rl rh r bl bc (some i) s b n (told pre 8).length (lastOf pre 8) (fun j => if j < (told pre 8).length then got F j else 0)
  upd : Upd (fun k => k = s ∨ k = b ∨ k = r) w wr
  all : pre ++ post = l
  tells : Tells c (num bc 0 bl) i post q
  last : lastOf pre 8 ≠ 0
theorem last_ne : ∀ (l : List (Nat × Nat)) (last : Nat), last ≠ 0 → lastOf l last ≠ 0
  | [], _, h => h
  | (s, _) :: r, last, h => last_ne r _ (nl_ne s last h)
set_option maxRecDepth 20000 in
set_option maxHeartbeats 1000000 in
/-- The steps, behind how many there are. -/
theorem steps_loop (rl rh r bl s b n i q lo hi g most : Nat) (bc : Nat → Nat) (c : Nat → Int) (hc : ∀ k, bc k ≤ 255) (hbl : bl ≤ 100000) (hn : n ≤ 100000) (w : World) (F : List Nat) (l : List (Nat × Nat)) (hF : told l 8 = F)
    (nm : (nb (num bc 0 bl) i 1 = 0 ∧ most = n ∧ Tells c (num bc 0 bl) (i + 1) l q) ∨
      (nb (num bc 0 bl) i 1 = 1 ∧ most = nb (num bc 0 bl) (i + 4) (2 + 2 * nb (num bc 0 bl) (i + 1) 3) + 2 ∧ Tells c (num bc 0 bl) (i + 4 + (2 + 2 * nb (num bc 0 bl) (i + 1) 3)) l q))
    (le : most ≤ n) (many : l.length ≤ most) (fit : F.length ≤ n) (stop : F.length = n ∨ l.length = most) (hq : q ≤ 8 * bl)
    (h : So w rl rh r bl bc (some i) s b n 0 8 (fun _ => 0)) (tr : Tr w lo hi g c 19) (hlo : rh ≤ lo) (hs : ∀ k, lo ≤ k → k < hi → k ≠ s ∧ k ≠ b) :
    Calls Tryd.prog 43 #[.pointer (some ⟨s, 0, none⟩), .pointer (some ⟨g, 0, none⟩)] w fun e w' => e = .returned (.int .i64 0) ∧ (∃ tl last, So w' rl rh r bl bc (some q) s b n tl last (got F)) ∧ Upd (fun k => k = s ∨ k = b ∨ k = r) w w' := by
  have hne := h.ne
  have c1 := h.box.cell 1
  have H := hide h
  have LOOP : Hid (∀ (wa : World) (p : Nat), So wa rl rh r bl bc (some p) s b n 0 8 (fun _ => 0) → Upd (fun k => k = s ∨ k = b ∨ k = r) w wa → Tells c (num bc 0 bl) p l q → Rs w wa rl rh r bl bc s b n q c F l [] l p) := fun wa p h1 h2 h3 => ⟨h1.congr (fun k _ => by simp [told]), h2, rfl, h3, by decide⟩
  have TR := hide tr
  have HS := hide hs
  have FF := hide hF
  have ST := hide stop
  have MA := hide many
  clear h tr hs hF stop many
  rcases nm with ⟨hb, hmo, tl⟩ | ⟨hb, hmo, tl⟩
  · obtain rfl : n = most := hmo.symm
    have TL := hide tl
    have hi1 := tl.le
    have NU := hide (number_at rl rh r bl s b n 0 8 1 i 0 bc (fun _ => 0) hc (by omega) w (unhide H) (by omega) (by omega) hb)
    clear tl hmo hb
    go_enter Tryd.func43, Tryd.ntmps43
    go_wp2_with fail
    refine (unhide NU).mono ?_
    rintro e w1 ⟨rfl, so1, u1⟩
    have c0 := so1.box.cell 0
    have c11 := so1.box.cell 1
    have H1 := hide so1
    have U1 := hide (u1.mono (T := fun k => k = s ∨ k = b ∨ k = r) (fun k _ hk => .inr (.inr hk)))
    clear so1 u1 NU H c1
    go_wp2_with fail
    refine (over_step rl rh r bl _ bc w1 (unhide H1).rd).mono ?_
    rintro e w2 ⟨rfl, rfl⟩
    have nn : ¬ (n : Int) < (n : Int) := by omega
    have RS := hide (unhide LOOP w2 (i + 1) (unhide H1) (unhide U1) (unhide TL))
    clear H1 U1 TL LOOP
    go_wp2
    go_loopw [5] (fun x wr => ∃ (pre post : List (Nat × Nat)) (p : Nat), x = .int .i64 (n - pre.length : Nat) ∧ Rs w wr rl rh r bl bc s b n q c F l pre post p) (fun x _ => (intOf x).toNat)
    case atStart => exact ⟨[], l, _, rfl, unhide RS⟩
    case round =>
      obtain ⟨pre, post, p, rfl, rs⟩ := hrel
      have RR := hide rs
      have d1 := rs.so.box.cell 1
      have d2 := rs.so.box.cell 2
      have hall := rs.all
      obtain ⟨mo, hmo⟩ : ∃ mo, n - pre.length = mo := ⟨_, rfl⟩
      obtain ⟨tp, htp⟩ : ∃ tp, (told pre 8).length = tp := ⟨_, rfl⟩
      rw [htp] at d2
      have hlen : l.length = pre.length + post.length := by rw [← hall, List.length_append]
      have hFl : F.length = tp + (told post (lastOf pre 8)).length := by rw [← unhide FF, ← hall, told_app, List.length_append, htp]
      have HMO := hide hmo
      have HTP := hide htp
      rw [hmo]
      cases post with
      | nil =>
        have hp : p = q := (show q = p from rs.tells).symm
        subst hp
        have FIN := hide (show So wr rl rh r bl bc (some p) s b n tp (lastOf pre 8) (got F) from by
          rw [← htp]
          refine rs.so.congr (fun k _ => ?_)
          by_cases hk : k < (told pre 8).length
          · rw [if_pos hk]
          · rw [if_neg hk, got_past F k (by simp [told] at hFl; omega)])
        have UF := hide rs.upd
        have hst := unhide ST
        have hma := unhide MA
        simp [told] at hFl hlen
        clear rs RR hall
        by_cases hm0 : mo = 0
        · subst hm0
          go_wp2
          go_quiet (fail)
          have F2 := hide ((unhide FIN).drewN nq)
          have U2 := hide ((unhide UF).drewN nq)
          clear FIN UF d1 d2 c11
          generalize wr.drewN nq = wz at *
          go_wp2
          go_ret
          exact ⟨rfl, ⟨_, _, unhide F2⟩, unhide U2⟩
        · have hm1 : 0 < mo := by omega
          have htn : tp = n := by have := unhide HMO; omega
          subst htn
          have ntt : ¬ (tp : Int) < (tp : Int) := by omega
          have ntt2 : decide (tp < tp) = false := decide_eq_false (by omega)
          clear hm0 hst hma hFl hlen
          go_wp2
          go_quiet (fail)
          have F2 := hide ((unhide FIN).drewN nq)
          have U2 := hide ((unhide UF).drewN nq)
          clear FIN UF d1 d2 c11
          generalize wr.drewN nq = wz at *
          go_wp2
          go_ret
          exact ⟨rfl, ⟨_, _, unhide F2⟩, unhide U2⟩
      | cons yx post =>
        obtain ⟨y, x⟩ := yx
        have hma := unhide MA
        have hbp := bas_pos y
        simp only [told, List.length_cons, List.length_append, List.length_replicate] at hFl hlen
        have hm1 : 0 < mo := by have := unhide HMO; omega
        have htn : tp < n := by omega
        have htn' : (tp : Int) < (n : Int) := by omega
        have htn2 : decide (tp < n) = true := decide_eq_true htn
        have tls := rs.tells
        obtain ⟨L, nx, hx, rest⟩ := tls
        have hrl := rest.le
        have STP := hide (fun (w' : World) (h : So w' rl rh r bl bc (some p) s b n tp (lastOf pre 8) (fun j => if j < tp then got F j else 0)) (t : Tr w' lo hi g c 19) => step55 rl rh r bl s b n tp (lastOf pre 8) p L y x lo hi g bc _ c hc hbl w' h hn rs.last t hlo nx hx.symm (by omega) (by omega))
        have so' := rs.so
        rw [htp] at so'
        have S0 := hide so'
        have U0 := hide rs.upd
        have REST := hide rest
        clear so' rs hrl rest nx hx
        go_wp2
        go_quiet (fail)
        have S1 := hide ((unhide S0).drewN nq)
        have U1 := hide ((unhide U0).drewN nq)
        clear S0 U0 d1 d2 c11
        generalize wr.drewN nq = wz at *
        have T1 := hide ((unhide TR).keep (unhide U1) (fun k h1 h2 h3 => by have := unhide HS k h1 h2; omega))
        go_wp2_with fail
        refine (unhide STP wz (unhide S1) (unhide T1)).mono ?_
        rintro e1 w9 ⟨rfl, so9, u9⟩
        have S9 := hide so9
        have U9 := hide ((unhide U1).trans u9)
        clear so9 u9 S1 U1 T1 STP
        go_wp2
        go_roundw
        case rel =>
          have hN := told_next pre y x
          have htp := unhide HTP
          have hall := unhide RR
          refine ⟨pre ++ [(y, x)], post, _, ?_, ?_, unhide U9, ?_, unhide REST, ?_⟩
          · have := unhide HMO
            simp only [List.length_append, List.length_cons, List.length_nil]
            go_num
          · rw [hN.1, hN.2, htp]
            refine (unhide S9).congr (fun k _ => ?_)
            rw [← htp]
            exact told_now F pre y x _ post (by rw [hall.all]; exact unhide FF) rfl k
          · rw [← hall.all]; simp
          · rw [hN.2]; exact nl_ne _ _ hall.last
        case measure => simp [intOf]; omega
  · obtain ⟨k3, hk3⟩ : ∃ k3, nb (num bc 0 bl) (i + 1) 3 = k3 := ⟨_, rfl⟩
    rw [hk3] at hmo tl
    have hk8 : k3 < 8 := by rw [← hk3]; exact nb_lt _ _ 3
    obtain ⟨m0, hm0⟩ : ∃ m0, nb (num bc 0 bl) (i + 4) (2 + 2 * k3) = m0 := ⟨_, rfl⟩
    rw [hm0] at hmo
    have TL := hide tl
    have hi1 := tl.le
    have NU := hide (number_at rl rh r bl s b n 0 8 1 i 1 bc (fun _ => 0) hc (by omega) w (unhide H) (by omega) (by omega) hb)
    have NV := hide (fun w' h => number_at rl rh r bl s b n 0 8 3 (i + 1) k3 bc (fun _ => 0) hc (by omega) w' h (by omega) (by omega) hk3)
    obtain ⟨kk, hkk⟩ : ∃ kk, 2 + 2 * k3 = kk := ⟨_, rfl⟩
    rw [hkk] at hm0 TL hi1
    have NW := hide (fun w' h => number_at rl rh r bl s b n 0 8 kk (i + 1 + 3) m0 bc (fun _ => 0) hc (by omega) w' h (by omega) (by omega) hm0)
    have ekk : (2 : Int) + 2 * (k3 : Int) = (kk : Int) := by omega
    have emo : (m0 : Int) + 2 = (most : Int) := by omega
    have hmn : (most : Int) ≤ (n : Int) := by omega
    have hmn2 : decide ((n : Int) < (most : Int)) = false := decide_eq_false (by omega)
    have hmn3 : decide (n < most) = false := decide_eq_false (by omega)
    clear tl hmo hb hk3 hm0 hkk
    go_enter Tryd.func43, Tryd.ntmps43
    go_wp2_with fail
    refine (unhide NU).mono ?_
    rintro e w1 ⟨rfl, so1, u1⟩
    have H1 := hide so1
    have U1 := hide (u1.mono (T := fun k => k = s ∨ k = b ∨ k = r) (fun k _ hk => .inr (.inr hk)))
    clear so1 u1 NU H c1
    go_wp2_with fail
    refine (unhide NV w1 (unhide H1)).mono ?_
    rintro e w2 ⟨rfl, so2, u2⟩
    have H2 := hide so2
    have U2 := hide ((unhide U1).trans (u2.mono (T := fun k => k = s ∨ k = b ∨ k = r) (fun k _ hk => .inr (.inr hk))))
    clear so2 u2 H1 U1 NV
    go_wp2_with fail
    refine (unhide NW w2 (unhide H2)).mono ?_
    rintro e w3 ⟨rfl, so3, u3⟩
    have H3 := hide so3
    have U3 := hide ((unhide U2).trans (u3.mono (T := fun k => k = s ∨ k = b ∨ k = r) (fun k _ hk => .inr (.inr hk))))
    have c0 := so3.box.cell 0
    have c11 := so3.box.cell 1
    clear so3 u3 H2 U2 NW ekk
    go_wp2_with fail
    refine (over_step rl rh r bl _ bc w3 (unhide H3).rd).mono ?_
    rintro e w4 ⟨rfl, rfl⟩
    have RS := hide (unhide LOOP w4 _ (unhide H3) (unhide U3) (unhide TL))
    clear H3 U3 TL LOOP
    go_wp2
    go_loopw [5] (fun x wr => ∃ (pre post : List (Nat × Nat)) (p : Nat), x = .int .i64 (most - pre.length : Nat) ∧ Rs w wr rl rh r bl bc s b n q c F l pre post p) (fun x _ => (intOf x).toNat)
    case atStart => exact ⟨[], l, _, rfl, unhide RS⟩
    case round =>
      obtain ⟨pre, post, p, rfl, rs⟩ := hrel
      have RR := hide rs
      have d1 := rs.so.box.cell 1
      have d2 := rs.so.box.cell 2
      have hall := rs.all
      obtain ⟨mo, hmo⟩ : ∃ mo, most - pre.length = mo := ⟨_, rfl⟩
      obtain ⟨tp, htp⟩ : ∃ tp, (told pre 8).length = tp := ⟨_, rfl⟩
      rw [htp] at d2
      have hlen : l.length = pre.length + post.length := by rw [← hall, List.length_append]
      have hFl : F.length = tp + (told post (lastOf pre 8)).length := by rw [← unhide FF, ← hall, told_app, List.length_append, htp]
      have HMO := hide hmo
      have HTP := hide htp
      rw [hmo]
      cases post with
      | nil =>
        have hp : p = q := (show q = p from rs.tells).symm
        subst hp
        have FIN := hide (show So wr rl rh r bl bc (some p) s b n tp (lastOf pre 8) (got F) from by
          rw [← htp]
          refine rs.so.congr (fun k _ => ?_)
          by_cases hk : k < (told pre 8).length
          · rw [if_pos hk]
          · rw [if_neg hk, got_past F k (by simp [told] at hFl; omega)])
        have UF := hide rs.upd
        have hst := unhide ST
        have hma := unhide MA
        simp [told] at hFl hlen
        clear rs RR hall
        by_cases hm0 : mo = 0
        · subst hm0
          go_wp2
          go_quiet (fail)
          have F2 := hide ((unhide FIN).drewN nq)
          have U2 := hide ((unhide UF).drewN nq)
          clear FIN UF d1 d2 c11
          generalize wr.drewN nq = wz at *
          go_wp2
          go_ret
          exact ⟨rfl, ⟨_, _, unhide F2⟩, unhide U2⟩
        · have hm1 : 0 < mo := by omega
          have htn : tp = n := by have := unhide HMO; omega
          subst htn
          have ntt : ¬ (tp : Int) < (tp : Int) := by omega
          have ntt2 : decide (tp < tp) = false := decide_eq_false (by omega)
          clear hm0 hst hma hFl hlen
          go_wp2
          go_quiet (fail)
          have F2 := hide ((unhide FIN).drewN nq)
          have U2 := hide ((unhide UF).drewN nq)
          clear FIN UF d1 d2 c11
          generalize wr.drewN nq = wz at *
          go_wp2
          go_ret
          exact ⟨rfl, ⟨_, _, unhide F2⟩, unhide U2⟩
      | cons yx post =>
        obtain ⟨y, x⟩ := yx
        have hma := unhide MA
        have hbp := bas_pos y
        simp only [told, List.length_cons, List.length_append, List.length_replicate] at hFl hlen
        have hm1 : 0 < mo := by have := unhide HMO; omega
        have htn : tp < n := by omega
        have htn' : (tp : Int) < (n : Int) := by omega
        have htn2 : decide (tp < n) = true := decide_eq_true htn
        have tls := rs.tells
        obtain ⟨L, nx, hx, rest⟩ := tls
        have hrl := rest.le
        have STP := hide (fun (w' : World) (h : So w' rl rh r bl bc (some p) s b n tp (lastOf pre 8) (fun j => if j < tp then got F j else 0)) (t : Tr w' lo hi g c 19) => step55 rl rh r bl s b n tp (lastOf pre 8) p L y x lo hi g bc _ c hc hbl w' h hn rs.last t hlo nx hx.symm (by omega) (by omega))
        have so' := rs.so
        rw [htp] at so'
        have S0 := hide so'
        have U0 := hide rs.upd
        have REST := hide rest
        clear so' rs hrl rest nx hx
        go_wp2
        go_quiet (fail)
        have S1 := hide ((unhide S0).drewN nq)
        have U1 := hide ((unhide U0).drewN nq)
        clear S0 U0 d1 d2 c11
        generalize wr.drewN nq = wz at *
        have T1 := hide ((unhide TR).keep (unhide U1) (fun k h1 h2 h3 => by have := unhide HS k h1 h2; omega))
        go_wp2_with fail
        refine (unhide STP wz (unhide S1) (unhide T1)).mono ?_
        rintro e1 w9 ⟨rfl, so9, u9⟩
        have S9 := hide so9
        have U9 := hide ((unhide U1).trans u9)
        clear so9 u9 S1 U1 T1 STP
        go_wp2
        go_roundw
        case rel =>
          have hN := told_next pre y x
          have htp := unhide HTP
          have hall := unhide RR
          refine ⟨pre ++ [(y, x)], post, _, ?_, ?_, unhide U9, ?_, unhide REST, ?_⟩
          · have := unhide HMO
            simp only [List.length_append, List.length_cons, List.length_nil]
            go_num
          · rw [hN.1, hN.2, htp]
            refine (unhide S9).congr (fun k _ => ?_)
            rw [← htp]
            exact told_now F pre y x _ post (by rw [hall.all]; exact unhide FF) rfl k
          · rw [← hall.all]; simp
          · rw [hN.2]; exact nl_ne _ _ hall.last
        case measure => simp [intOf]; omega
end Go.Proofs.YtaidboopcoaeeaaDoor.Rsc
