/- Contract: tree.words: each symbol's code as the bits that are put. Conditions: the slice reads as complete lengths, and they are few. -/
import Derived.Test.YtgjpcjnhggcfdaaDoorCod
import Derived.Test.YtgjpcjnhggcfdaaDoorDec
import Derived.Test.YtgjpcjnhggcfdaaDoorRev
namespace Go.Proofs.YtgjpcjnhggcfdaaDoor.Wrd
open Go.ChangeShapes Go.WideShapes Go.ChangeAt Go.RowKit Go.Proofs.YtgjpcjnhggcfdaaDoor.Core Go.Proofs.YtgjpcjnhggcfdaaDoor.Gnd Go.Proofs.YtgjpcjnhggcfdaaDoor.Math Go.Proofs.YtgjpcjnhggcfdaaDoor.Rvm Go.Proofs.YtgjpcjnhggcfdaaDoor.Dec Go.Proofs.YtgjpcjnhggcfdaaDoor.One Go.Proofs.YtgjpcjnhggcfdaaDoor.Cod Go.Proofs.YtgjpcjnhggcfdaaDoor.Rev

/-- Words in a block: of each its bits, and how many. -/
def wrow (u : Nat → Nat) (q : Nat → Int) (n : Nat) : Array Value := ((List.range (n * 2)).map fun j => if j % 2 = 0 then Value.int .u16 (u (j / 2)) else Value.int .i8 (q (j / 2))).toArray
theorem wrow_size (u : Nat → Nat) (q : Nat → Int) (n : Nat) : (wrow u q n).size = n * 2 := by simp [wrow]
theorem wrow_at (u : Nat → Nat) (q : Nat → Int) (n j : Nat) (h : j < n * 2) : (wrow u q n)[j]? = some (if j % 2 = 0 then Value.int .u16 (u (j / 2)) else Value.int .i8 (q (j / 2))) := by
  simp [wrow, h]
theorem wrow_bits (u : Nat → Nat) (q : Nat → Int) (n k : Nat) (h : k < n) : (wrow u q n)[k * 2]? = some (Value.int .u16 (u k)) := by
  rw [wrow_at _ _ _ _ (by omega), if_pos (by omega), show k * 2 / 2 = k by omega]
theorem wrow_cnt (u : Nat → Nat) (q : Nat → Int) (n k : Nat) (h : k < n) : (wrow u q n)[k * 2 + 1]? = some (Value.int .i8 (q k)) := by
  rw [wrow_at _ _ _ _ (by omega), if_neg (by omega), show (k * 2 + 1) / 2 = k by omega]
theorem wrow_ext {xs : Array Value} {u : Nat → Nat} {q : Nat → Int} {n : Nat} (hs : xs.size = n * 2) (h : ∀ k, k < n → xs[k * 2]? = some (.int .u16 (u k)) ∧ xs[k * 2 + 1]? = some (.int .i8 (q k))) : xs = wrow u q n := by
  apply Array.ext_getElem?
  intro j
  by_cases hj : j < n * 2
  · obtain ⟨h1, h2⟩ := h (j / 2) (by omega)
    rcases Nat.mod_two_eq_zero_or_one j with e | e
    · have e2 : j / 2 * 2 = j := by omega
      have h3 := wrow_bits u q n (j / 2) (by omega)
      rw [e2] at h1 h3
      rw [h1, h3]
    · have e2 : j / 2 * 2 + 1 = j := by omega
      have h3 := wrow_cnt u q n (j / 2) (by omega)
      rw [e2] at h2 h3
      rw [h2, h3]
  · rw [Array.getElem?_eq_none (by omega), Array.getElem?_eq_none (by rw [wrow_size]; omega)]
theorem wrow_congr {u u' : Nat → Nat} {q q' : Nat → Int} {n : Nat} (h : ∀ k, k < n → u k = u' k ∧ q k = q' k) : wrow u q n = wrow u' q' n :=
  wrow_ext (wrow_size _ _ _) fun k hk => by rw [wrow_bits _ _ _ _ hk, wrow_cnt _ _ _ _ hk, (h k hk).1, (h k hk).2]; exact ⟨rfl, rfl⟩
theorem wrow_set_bits (u : Nat → Nat) (q : Nat → Int) (n i z : Nat) : (wrow u q n).setIfInBounds (i * 2) (.int .u16 z) = wrow (fun k => if k = i then z else u k) q n := by
  refine wrow_ext (by simp [wrow_size]) fun k hk => ?_
  rw [Array.getElem?_setIfInBounds, Array.getElem?_setIfInBounds, wrow_bits _ _ _ _ hk, wrow_cnt _ _ _ _ hk, wrow_size, if_neg (show ¬ i * 2 = k * 2 + 1 by omega)]
  by_cases e : k = i
  · subst e
    simp; omega
  · simp [e, show ¬ i * 2 = k * 2 by omega]
theorem wrow_set_cnt (u : Nat → Nat) (q : Nat → Int) (n i : Nat) (z : Int) : (wrow u q n).setIfInBounds (i * 2 + 1) (.int .i8 z) = wrow u (fun k => if k = i then z else q k) n := by
  refine wrow_ext (by simp [wrow_size]) fun k hk => ?_
  rw [Array.getElem?_setIfInBounds, Array.getElem?_setIfInBounds, wrow_bits _ _ _ _ hk, wrow_cnt _ _ _ _ hk, wrow_size, if_neg (show ¬ i * 2 + 1 = k * 2 by omega)]
  by_cases e : k = i
  · subst e
    simp; omega
  · have e2 : ¬ i * 2 = k * 2 := by omega
    simp [e, e2]
theorem info74 : (Tryd.prog.info? 99).map (fun i => (i.zero, i.size, i.bytes)) = some (some (.agg #[.int .u16 0, .int .i8 0]), 2, 4) := by kernel_rfl
theorem wrow_made (n : Nat) : madeCells #[.int .u16 0, .int .i8 0] (n * 2) = wrow (fun _ => 0) (fun _ => 0) n := by
  refine wrow_ext (by simp [size_madeCells]) fun k hk => ?_
  simp [madeCells, show k * 2 < n * 2 by omega, show k * 2 + 1 < n * 2 by omega, show (k * 2 + 1) % 2 = 1 by omega]
theorem make_words (w : World) (n : Nat) (hn : n ≤ 1000000) : (Instr.makeSlice 79 (.int .i64 n) (.int .i64 n)).run Tryd.prog w = .ok (.slice (some ⟨w.heap.size, 0, none⟩) n n) (w.alloc (.cells (wrow (fun _ => 0) (fun _ => 0) n) 99)) := by
  obtain ⟨i0, hi, hz0, hz1, hz2⟩ := info_parts info74
  have := run_make (P := Tryd.prog) w 79 99 i0 _ Tryd.underlying79 hi hz0 .i64 .i64 n n (by omega) (by omega) (by rw [hz2]; omega) (by omega)
  rw [hz1] at this
  rw [this]
  simp [Value.cells, wrow_made]
theorem cell_other {w : World} {p a : Addr} (h : p.block ≠ a.block) (v : Value) : (w.setCell a v).cell? p = w.cell? p := World.cell?_of_block (Below.heap_setCell _ _ _ _ h)
theorem wput {w : World} {g n : Nat} {u : Nat → Nat} {q : Nat → Int} (h : Box w g 99 (wrow u q n)) (k X : Nat) (z : Int) :
    Box ((w.setCell ⟨g, k * 2, none⟩ (.int .u16 X)).setCell ⟨g, k * 2 + 1, none⟩ (.int .i8 z)) g 99 (wrow (fun j => if j = k then X else u j) (fun j => if j = k then z else q j) n) := by
  have := (h.set (k * 2) (.int .u16 X)).set (k * 2 + 1) (.int .i8 z)
  rw [wrow_set_bits, wrow_set_cnt] at this
  exact this
/-- What words has made behind the first i symbols. -/
def ui (c : Nat → Int) (n i k : Nat) : Nat := if k < i then rv (c k).toNat (cod c n k) else 0
def qi (c : Nat → Int) (i k : Nat) : Int := if k < i then (if c k = 0 then -1 else c k) else 0
theorem ui_next (c : Nat → Int) (n k X : Nat) (h : rv (c k).toNat (cod c n k) = X) (j : Nat) : (if j = k then X else ui c n k j) = ui c n (k + 1) j := by
  unfold ui
  by_cases e : j = k
  · subst e
    rw [if_pos rfl, if_pos (by omega), h]
  · rw [if_neg e]
    by_cases h2 : j < k
    · rw [if_pos h2, if_pos (by omega)]
    · rw [if_neg h2, if_neg (by omega)]
theorem qi_next (c : Nat → Int) (k : Nat) (z : Int) (h : (if c k = 0 then -1 else c k) = z) (j : Nat) : (if j = k then z else qi c k j) = qi c (k + 1) j := by
  unfold qi
  by_cases e : j = k
  · subst e
    rw [if_pos rfl, if_pos (by omega), h]
  · rw [if_neg e]
    by_cases h2 : j < k
    · rw [if_pos h2, if_pos (show j < k + 1 by omega)]
    · rw [if_neg h2, if_neg (by omega)]
structure Mid (w wr : World) (g r n k : Nat) (c : Nat → Int) : Prop where
  box : Box wr g 99 (wrow (ui c n k) (qi c k) n)
  bel : Below w.heap.size w wr
  code : ∀ j, j < n → wr.cell? ⟨r, j, none⟩ = some (.int .u32 (cod c n j))
theorem Mid.put {w wr : World} {g r n k : Nat} {c : Nat → Int} (h : Mid w wr g r n k c) (hg : w.heap.size ≤ g) (hr : r ≠ g) (X : Nat) (z : Int) (hX : rv (c k).toNat (cod c n k) = X) (hz : (if c k = 0 then -1 else c k) = z) :
    Mid w ((wr.setCell ⟨g, k * 2, none⟩ (.int .u16 X)).setCell ⟨g, k * 2 + 1, none⟩ (.int .i8 z)) g r n (k + 1) c := by
  refine ⟨?_, (h.bel.setCell (p := ⟨g, k * 2, none⟩) hg _).setCell (p := ⟨g, k * 2 + 1, none⟩) hg _, fun j hj => ?_⟩
  · have := wput h.box k X z
    rw [wrow_congr (u' := ui c n (k + 1)) (q' := qi c (k + 1)) (fun j _ => ⟨ui_next c n k X hX j, qi_next c k z hz j⟩)] at this
    exact this
  · rw [cell_other (by exact hr), cell_other (by exact hr)]
    exact h.code j hj
theorem Mid.two {w wr : World} {g r n k : Nat} {c : Nat → Int} (h : Mid w wr g r n k c) (hg : w.heap.size ≤ g) (hr : r ≠ g) (X : Nat) (y z : Int) (hX : rv (c k).toNat (cod c n k) = X) (hz : (if c k = 0 then -1 else c k) = z) :
    Mid w (((wr.setCell ⟨g, k * 2, none⟩ (.int .u16 X)).setCell ⟨g, k * 2 + 1, none⟩ (.int .i8 y)).setCell ⟨g, k * 2 + 1, none⟩ (.int .i8 z)) g r n (k + 1) c := by
  refine ⟨?_, ((h.bel.setCell (p := ⟨g, k * 2, none⟩) hg _).setCell (p := ⟨g, k * 2 + 1, none⟩) hg _).setCell (p := ⟨g, k * 2 + 1, none⟩) hg _, fun j hj => ?_⟩
  · have := (wput h.box k X y).set (k * 2 + 1) (.int .i8 z)
    rw [wrow_set_cnt, wrow_congr (u' := ui c n (k + 1)) (q' := qi c (k + 1)) (fun j _ => ⟨ui_next c n k X hX j, by rw [← qi_next c k z hz j]; by_cases e : j = k <;> simp [e]⟩)] at this
    exact this
  · rw [cell_other (by exact hr), cell_other (by exact hr), cell_other (by exact hr)]
    exact h.code j hj
theorem fin_many {c : Nat → Int} {n : Nat} (hm : many c n ≠ 1) : wrow (ui c n n) (qi c n) n = wrow (uu c n) (qq c n) n := by
  refine wrow_congr fun k hk => ?_
  unfold ui qi uu qq
  rw [if_pos hk, if_pos hk]
  by_cases h : c k = 0
  · rw [if_pos h, if_pos h, if_pos (.inl h), h]
    exact ⟨rfl, rfl⟩
  · rw [if_neg h, if_neg h, if_neg (by simp [h, hm]), if_neg hm]
    exact ⟨rfl, rfl⟩
theorem fin_one {c : Nat → Int} {n : Nat} (hm : many c n = 1) : wrow (fun j => if j = sel c n then 0 else ui c n n j) (fun j => if j = sel c n then 0 else qi c n j) n = wrow (uu c n) (qq c n) n := by
  obtain ⟨_, h2, h3⟩ := (sel_one n).2 hm
  refine wrow_congr fun k hk => ?_
  unfold ui qi uu qq
  by_cases e : k = sel c n
  · subst e
    simp [h2, hm]
  · have h := h3 k hk e
    simp [e, h, hk, rv]
set_option maxHeartbeats 1000000 in
theorem words23 (v : Value) (n : Nat) (c : Nat → Int) (hl : n ≤ 100000) (h : chk c n = 0) (w : World) (src : Ints .i64 w v n c) :
    Calls Tryd.prog 29 #[v] w fun e w' => ∃ b, e = .returned (.slice (some ⟨b, 0, none⟩) n n) ∧ w.heap.size ≤ b ∧ Box w' b 99 (wrow (uu c n) (qq c n) n) ∧ Below w.heap.size w w' := by
  obtain ⟨hg, _, hk⟩ := chk_zero h
  have HG := hide hg
  have HK := hide hk
  have SRC := hide src
  have hmk := fun w => make_words w n (by omega)
  obtain ⟨a, cap, rfl, _⟩ := src
  clear hg hk
  go_enter Tryd.func29, Tryd.ntmps29
  go_wp2_with fail
  have b0 : Below w.heap.size w (w.alloc (.cells (wrow (fun _ => 0) (fun _ => 0) n) 99)) := (Below.refl _ w).alloc (Nat.le_refl _) _
  refine (codes_new _ n c hl h _ ((unhide SRC).keep b0)).mono ?_
  rintro e w1 ⟨r, rfl, hr, ⟨a2, cap2, e2, hc2⟩, b1⟩
  cases e2
  have hr' : w.heap.size + 1 ≤ r := by simpa using hr
  have M1 : Hid (Mid w w1 w.heap.size r n 0 c) := by
    refine ⟨?_, b0.trans (b1.mono (by simp)), fun j hj => ?_⟩
    · rw [wrow_congr (u := ui c n 0) (q := qi c 0) (u' := fun _ => 0) (q' := fun _ => 0) (fun k _ => ⟨if_neg (by omega), if_neg (by omega)⟩)]
      exact (Box.made w 99 (wrow (fun _ => 0) (fun _ => 0) n)).below b1 (by simp)
    · obtain ⟨r', off', e3, hcod⟩ := hc2 j hj
      cases e3
      rw [Nat.zero_add] at hcod
      exact hcod
  clear hr b0 b1 hc2 h
  go_wp2
  go_loopw [15] (fun i wr => ∃ k : Nat, k ≤ n ∧ i = .int .i64 k ∧ Mid w wr w.heap.size r n k c) (fun i _ => n - (intOf i).toNat)
  case atStart => exact ⟨0, Nat.zero_le _, rfl, unhide M1⟩
  case round =>
    obtain ⟨k, hk, rfl, mid⟩ := hrel
    have MID := hide mid
    by_cases hlt : k < n
    · have hlt' : (k : Int) < (n : Int) := by omega
      obtain ⟨a1, cap1, e1, hc0⟩ := (unhide SRC).keep mid.bel
      cases e1
      obtain ⟨b, off, rfl, hcell⟩ := hc0 k hlt
      have hcod := mid.code k hlt
      have h1 := unhide HG k hlt
      obtain ⟨m, hcm⟩ : ∃ m : Nat, c k = (m : Int) := ⟨(c k).toNat, by omega⟩
      have f0 := mid.box.free (k * 2)
      have f1 := mid.box.free (k * 2 + 1)
      have c0 := (mid.box.cell (k * 2)).trans (wrow_bits _ _ n k hlt)
      have c1 := (mid.box.cell (k * 2 + 1)).trans (wrow_cnt _ _ n k hlt)
      have hm15 : m ≤ 15 := by omega
      rw [hcm] at hcell
      have hcl : cod c n k ≤ 32768 := by
        by_cases e : m = 0
        · unfold cod
          rw [if_pos (by omega)]
          omega
        · have h2 := cod_lt (unhide HG) (unhide HK) k hlt m hcm e
          have h3 : 2 ^ m ≤ 2 ^ 15 := Nat.pow_le_pow_right (by omega) hm15
          omega
      have T := hide (turned31 (cod c n k) m wr (by omega) (by omega))
      have hX : rv m (cod c n k) ≤ 32768 := by
        have h2 := rv_lt m (cod c n k)
        have h3 : 2 ^ m ≤ 2 ^ 15 := Nat.pow_le_pow_right (by omega) hm15
        omega
      have E := hide (show rv (c k).toNat (cod c n k) = rv m (cod c n k) by rw [hcm]; rfl)
      have HCM := hide hcm
      have hne : r ≠ w.heap.size := by omega
      generalize rv m (cod c n k) = X at *
      clear mid hc0 M1 hcm h1
      go_wp2_with fail
      refine (unhide T).mono ?_
      rintro e w2 ⟨rfl, rfl⟩
      by_cases hm : m = 0
      · subst hm
        go_wp2
        go_roundw
        case rel => exact ⟨k + 1, by omega, by go_num, (unhide MID).two (Nat.le_refl _) hne X _ _ (unhide E) (by rw [unhide HCM]; simp)⟩
        case measure => simp [intOf]; omega
      · have hm' : ¬ (m : Int) = 0 := by omega
        go_wp2
        go_roundw
        case rel => exact ⟨k + 1, by omega, by go_num, (unhide MID).put (Nat.le_refl _) hne X _ (unhide E) (by rw [unhide HCM, if_neg hm'])⟩
        case measure => simp [intOf]; omega
    · obtain rfl : k = n := by omega
      have O := hide (one8 _ k c hl wr ((unhide SRC).keep mid.bel))
      have hnl : ¬ (k : Int) < (k : Int) := by omega
      clear mid M1 hlt
      go_wp2_with fail
      refine (unhide O).mono ?_
      by_cases hm : many c k = 1
      · rw [if_pos hm, decide_eq_true hm]
        rintro e w2 ⟨rfl, b2⟩
        have BX := hide ((unhide MID).box.below b2 (unhide MID).box.lt)
        have BEL := hide (show Below w.heap.size w w2 from (unhide MID).bel.trans (b2.mono (unhide MID).bel.size))
        obtain ⟨s1, s2, s3⟩ := (sel_one k).2 hm
        have HM := hide hm
        have f0 := (unhide BX).free (sel c k * 2)
        have f1 := (unhide BX).free (sel c k * 2 + 1)
        have c0 := ((unhide BX).cell (sel c k * 2)).trans (wrow_bits _ _ k _ s1)
        have c1 := ((unhide BX).cell (sel c k * 2 + 1)).trans (wrow_cnt _ _ k _ s1)
        have s1' : (sel c k : Int) < (k : Int) := by omega
        clear b2 hm s2 s3 O
        have FIN := hide (fun x y (hx : x = 0) (hy : y = 0) => (show Box ((w2.setCell ⟨w.heap.size, sel c k * 2, none⟩ (.int .u16 ((x : Nat) : Int))).setCell ⟨w.heap.size, sel c k * 2 + 1, none⟩ (.int .i8 y)) w.heap.size 99 (wrow (uu c k) (qq c k) k) from by
          subst hx; subst hy
          rw [← fin_one (unhide HM)]
          exact wput (unhide BX) (sel c k) 0 0))
        generalize sel c k = t at *
        go_wp2
        go_ret
        refine ⟨_, rfl, Nat.le_refl _, ?_, ?_⟩
        · exact unhide FIN 0 0 rfl rfl
        · exact ((unhide BEL).setCell (p := ⟨w.heap.size, t * 2, none⟩) (Nat.le_refl _) _).setCell (p := ⟨w.heap.size, t * 2 + 1, none⟩) (Nat.le_refl _) _
      · rw [if_neg hm, decide_eq_false hm]
        rintro e w2 ⟨rfl, b2⟩
        have BX := hide ((unhide MID).box.below b2 (unhide MID).box.lt)
        have BEL := hide (show Below w.heap.size w w2 from (unhide MID).bel.trans (b2.mono (unhide MID).bel.size))
        clear b2 O
        go_wp2
        go_ret
        refine ⟨_, rfl, Nat.le_refl _, ?_, unhide BEL⟩
        rw [← fin_many hm]
        exact unhide BX
end Go.Proofs.YtgjpcjnhggcfdaaDoor.Wrd
