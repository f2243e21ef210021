/- Contract: size.Best. Conditions: the slice reads as integers, and they are few. -/
import Derived.Test.YtcfnbbelbadmkaaSha
import Derived.Test.YtcfnbbelbadmkaaRis2
namespace Go.Proofs.Ytcfnbbelbadmkaa.Bst
open Go.ChangeShapes Go.WideShapes Go.ChangeAt Go.RowKit Go.Proofs.Ytcfnbbelbadmkaa.Core Go.Proofs.Ytcfnbbelbadmkaa.Gnd Go.Proofs.Ytcfnbbelbadmkaa.Srt Go.Proofs.Ytcfnbbelbadmkaa.Ris Go.Proofs.Ytcfnbbelbadmkaa.Ris2 Go.Proofs.Ytcfnbbelbadmkaa.Itm Go.Proofs.Ytcfnbbelbadmkaa.Mrg Go.Proofs.Ytcfnbbelbadmkaa.Pur Go.Proofs.Ytcfnbbelbadmkaa.Spr
open Go.Proofs.Ytcfnbbelbadmkaa.Shr (sRow sRow_at sRow_size sRow_set sRow_congr make_ints)
open Go.Proofs.Ytcfnbbelbadmkaa.Sha

def ParOk : Prop := ∀ (v : Value) (xs : List It) (w : World), Its w v xs → xs.length ≤ 20000 → (∀ x ∈ xs, 0 < x.1 ∧ x.1 ≤ 4000000000000000000) → Calls Try.prog 24 #[v] w fun e w' => ∃ r, e = .returned r ∧ Its w' r (prs xs) ∧ Below w.heap.size w w'
theorem prs_max {B : Int} : ∀ (xs : List It), (∀ x ∈ xs, x.1 ≤ B) → ∀ y ∈ prs xs, y.1 ≤ 2 * B
  | [], _ => fun y h => by simp [prs] at h
  | [_], _ => fun y h => by simp [prs] at h
  | a :: b :: t, hp => fun y h => by
    simp only [prs, List.mem_cons] at h
    rcases h with rfl | h
    · have h1 := hp a (by simp)
      have h2 := hp b (by simp)
      show a.1 + b.1 ≤ _
      omega
    · exact prs_max t (fun x hx => hp x (by simp [hx])) y h
theorem row_max {S : List It} (hB : ∀ x ∈ S, x.1 ≤ 4294967296) : ∀ i, ∀ x ∈ rowI S i, x.1 ≤ 4294967296 * 2 ^ i
  | 0 => fun x hx => by have := hB x hx; omega
  | i + 1 => fun x hx => by
    have hp : (0 : Int) < 2 ^ i := Int.pow_pos (by omega)
    rcases row_mem.1 hx with h1 | h1
    · have := hB x h1
      rw [Int.pow_succ]
      omega
    · have := prs_max _ (row_max hB i) x h1
      rw [Int.pow_succ]
      omega
theorem row_max15 {S : List It} (hB : ∀ x ∈ S, x.1 ≤ 4294967296) (i : Nat) (hi : i < 15) : ∀ x, x ∈ rowI S i → x.1 ≤ 4000000000000000000 := fun x hx => by
  have h1 := row_max hB i x hx
  have h2 : (2 : Int) ^ i ≤ 2 ^ 15 := by
    have : 2 ^ i ≤ 2 ^ 15 := Nat.pow_le_pow_right (by omega) (by omega)
    have e : ((2 ^ i : Nat) : Int) = (2 : Int) ^ i := by simp
    rw [← e]
    omega
  omega
/-- What the lengths are. -/
structure Lns (c : Nat → Int) (len m : Nat) (s : Nat → Nat) (M : Nat → Nat) : Prop where
  re : Re 0 (pos c len).length (fun i => (pos c len).getD i 0) s
  up : Up c s 0 (pos c len).length
  one : (pos c len).length = 1 → M (s 0) = 1
  more : (pos c len).length ≠ 1 → ∀ p, p < (pos c len).length → M (s p) = sumN (fun r => if p < sprd (wts c (fun i => (s i : Int)) (pos c len).length) (m - 1) (2 * (pos c len).length - 2) r then 1 else 0) m
  none : ∀ x, x < len → (∀ p, p < (pos c len).length → s p ≠ x) → M x = 0
theorem pos_nodup (c : Nat → Int) : ∀ n i j, i < j → j < (pos c n).length → (pos c n).getD i 0 < (pos c n).getD j 0
  | 0, i, j, _, h => by simp [pos] at h
  | n + 1, i, j, hij, h => by
    unfold pos at h ⊢
    split at h
    · next hc =>
      rw [if_pos hc]
      have ih := pos_nodup c n
      rw [List.length_append] at h
      simp only [List.length_cons, List.length_nil] at h
      by_cases e : j < (pos c n).length
      · rw [List.getD_eq_getElem?_getD, List.getD_eq_getElem?_getD, List.getElem?_append_left (by omega), List.getElem?_append_left e]
        have := ih i j hij e
        rwa [List.getD_eq_getElem?_getD, List.getD_eq_getElem?_getD] at this
      · have ej : j = (pos c n).length := by omega
        have h1 : (pos c n).getD i 0 < n := pos_lt (c := c) (len := n) i (by omega)
        rw [List.getD_eq_getElem?_getD] at h1
        rw [List.getD_eq_getElem?_getD, List.getD_eq_getElem?_getD, List.getElem?_append_left (by omega), ej, List.getElem?_append_right (Nat.le_refl _)]
        simpa using h1
    · next hc =>
      rw [if_neg hc]
      exact pos_nodup c n i j hij h
theorem pos_inj {c : Nat → Int} {n i j : Nat} (hi : i < (pos c n).length) (hj : j < (pos c n).length) (h : (pos c n).getD i 0 = (pos c n).getD j 0) : i = j := by
  rcases Nat.lt_trichotomy i j with e | e | e
  · have := pos_nodup c n i j e hj; omega
  · exact e
  · have := pos_nodup c n j i e hi; omega
theorem re_inj {c : Nat → Int} {n : Nat} {s : Nat → Nat} (h : Re 0 (pos c n).length (fun i => (pos c n).getD i 0) s) {i j : Nat} (hi : i < (pos c n).length) (hj : j < (pos c n).length) (e : s i = s j) : i = j := by
  obtain ⟨p, q, h1, _, h3, h4⟩ := h
  rw [h4, h4] at e
  have a1 := h3 i (Nat.zero_le _) hi
  have a2 := h3 j (Nat.zero_le _) hj
  have := pos_inj a1.2.1 a2.2.1 e
  have h5 := (h1 i).2
  rw [this, (h1 j).2] at h5
  exact h5.symm
theorem re_pos {c : Nat → Int} {n : Nat} {s : Nat → Nat} (h : Re 0 (pos c n).length (fun i => (pos c n).getD i 0) s) {i : Nat} (hi : i < (pos c n).length) : s i < n ∧ 0 < c (s i) := by
  obtain ⟨j, _, h2, h3⟩ := h.into i (Nat.zero_le _) hi
  have h1 : (pos c n)[j] ∈ pos c n := List.getElem_mem h2
  have h4 := (pos_mem c _ n).1 h1
  have e : s i = (pos c n)[j] := by
    rw [h3, List.getD_eq_getElem?_getD, List.getElem?_eq_getElem h2]
    rfl
  rw [e]
  exact h4
theorem sym_of {c : Nat → Int} {n : Nat} {s : Nat → Nat} (h : Re 0 (pos c n).length (fun i => (pos c n).getD i 0) s) (up : Up c s 0 (pos c n).length) : Sym (wts c (fun i => (s i : Int)) (pos c n).length) := by
  refine ⟨fun i j hij hj => ?_, fun x hx => ?_, fun x hx => ?_⟩
  · rw [wts_len] at hj
    rw [wts_at _ _ _ _ (by omega), wts_at _ _ _ _ hj]
    exact up i j (Nat.zero_le _) hij hj
  · simp only [wts, List.mem_map, List.mem_range] at hx
    obtain ⟨i, hi, rfl⟩ := hx
    exact (re_pos h hi).2
  · simp only [wts, List.mem_map, List.mem_range] at hx
    obtain ⟨i, hi, rfl⟩ := hx
    rfl
/-- Lengths in a block. -/
structure Len (w2 wr : World) (len : Nat) (M : Nat → Nat) : Prop where
  box : Box wr w2.heap.size 3 (sRow (fun r => .int .i64 (M r)) len)
  bel : Below w2.heap.size w2 wr
theorem Len.put {w2 wr : World} {len : Nat} {M : Nat → Nat} (h : Len w2 wr len M) (k z : Nat) : Len w2 (wr.setCell ⟨w2.heap.size, k, none⟩ (.int .i64 z)) len (fun r => if r = k then z else M r) := by
  refine ⟨?_, h.bel.setCell (p := ⟨w2.heap.size, k, none⟩) (Nat.le_refl _) _⟩
  have := h.box.set k (.int .i64 z)
  rw [sRow_set, sRow_congr (g := fun r => .int .i64 (((if r = k then z else M r : Nat)) : Int)) (fun r _ => by by_cases e : r = k <;> simp [e])] at this
  exact this
theorem Len.ints {w2 wr : World} {len : Nat} {M : Nat → Nat} (h : Len w2 wr len M) (cap : Nat) : Ints .i64 wr (.slice (some ⟨w2.heap.size, 0, none⟩) len cap) len (fun i => (M i : Int)) :=
  ⟨_, cap, rfl, fun i hi => ⟨w2.heap.size, 0, rfl, by rw [Nat.zero_add, h.box.cell, sRow_at _ _ _ hi]⟩⟩
/-- The lengths behind r rows, and k symbols of the next. -/
structure Cnt (c : Nat → Int) (len : Nat) (s t M : Nat → Nat) (r k : Nat) : Prop where
  at_ : ∀ p, p < (pos c len).length → M (s p) = sumN (fun x => if p < t x then 1 else 0) r + (if p < k then 1 else 0)
  none : ∀ x, x < len → (∀ p, p < (pos c len).length → s p ≠ x) → M x = 0
theorem sum_le (g : Nat → Nat) (h : ∀ x, g x ≤ 1) : ∀ n, sumN g n ≤ n
  | 0 => Nat.le_refl _
  | n + 1 => by
    have := sum_le g h n
    have := h n
    show sumN g n + g n ≤ _
    omega
theorem Cnt.small {c : Nat → Int} {len : Nat} {s t M : Nat → Nat} {r k : Nat} (h : Cnt c len s t M r k) (p : Nat) (hp : p < (pos c len).length) : M (s p) ≤ r + 1 := by
  rw [h.at_ p hp]
  have := sum_le (fun x => if p < t x then 1 else 0) (fun x => by by_cases e : p < t x <;> simp [e]) r
  by_cases e : p < k
  · rw [if_pos e]; omega
  · rw [if_neg e]; omega
theorem Cnt.step {c : Nat → Int} {len : Nat} {s t M : Nat → Nat} {r k : Nat} (h : Cnt c len s t M r k) (re : Re 0 (pos c len).length (fun i => (pos c len).getD i 0) s) (hk : k < (pos c len).length) : Cnt c len s t (fun x => if x = s k then M (s k) + 1 else M x) r (k + 1) := by
  refine ⟨fun p hp => ?_, fun x hx hn => ?_⟩
  · by_cases e : p = k
    · subst e
      show (if s p = s p then _ else _) = _
      rw [if_pos rfl, h.at_ p hp, if_neg (by omega), if_pos (by omega)]
    · show (if s p = s k then _ else _) = _
      rw [if_neg (fun e2 => e (re_inj re hp hk e2)), h.at_ p hp]
      by_cases e2 : p < k
      · rw [if_pos e2, if_pos (by omega)]
      · rw [if_neg e2, if_neg (by omega)]
  · show (if x = s k then _ else _) = _
    rw [if_neg (fun e => hn k hk e.symm)]
    exact h.none x hx hn
theorem Cnt.next {c : Nat → Int} {len : Nat} {s t M : Nat → Nat} {r : Nat} (h : Cnt c len s t M r (t r)) : Cnt c len s t M (r + 1) 0 := by
  refine ⟨fun p hp => ?_, h.none⟩
  rw [h.at_ p hp, if_neg (Nat.not_lt_zero p)]
  rfl
/-- What size.Best answers. -/
structure Gives (c : Nat → Int) (len m : Nat) (w : World) (e : Ending) (w' : World) : Prop where
  ex : ∃ u s M, e = .returned (.tuple #[u, .int .i64 0]) ∧ Ints .i64 w' u len (fun i => ((M i : Nat) : Int)) ∧ Lns c len m s M ∧ Below w.heap.size w w'
set_option maxRecDepth 20000 in
set_option maxHeartbeats 4000000 in
theorem bst_ok (hpar : ParOk) (v : Value) (len m : Nat) (c : Nat → Int) (w : World) (src : Ints .i64 w v len c) (hl : len ≤ 4096) (ok : Okc c len) (hm : 1 ≤ m) (hm2 : m ≤ 15) (hn : (pos c len).length ≤ 2 ^ m) :
    Calls Try.prog 9 #[v, .int .i64 m] w fun e w' => Gives c len m w e w' := by
  have SRC := hide src
  have OK := hide ok
  have PAR := hide hpar
  have CG := hide (good13 v len c hl w src)
  have CR := hide (ris14 v len c hl w src ok)
  have okb := (okB_iff c len).2 ok
  rw [okb] at CG
  obtain ⟨a, cap, rfl, _⟩ := src
  have hm' : ¬ (m : Int) < 1 := by omega
  have hm2' : ¬ (15 : Int) < (m : Int) := by omega
  obtain ⟨xs, hxs⟩ : ∃ xs, xs = sRow (fun _ => .int .i64 0) len := ⟨_, rfl⟩
  have hmk : ∀ w, (Instr.makeSlice 22 (.int .i64 len) (.int .i64 len)).run Try.prog w = .ok (.slice (some ⟨w.heap.size, 0, none⟩) len len) (w.alloc (.cells xs 3)) := fun w => by
    rw [hxs]
    exact make_ints w len (by omega)
  have HX := hide hxs
  have pl := pos_len c len
  obtain ⟨P, hP⟩ : ∃ P : Nat, wrap64 ((2 : Int) ^ m) = (P : Int) ∧ P = 2 ^ m := ⟨2 ^ m, by
    have h1 : 2 ^ m ≤ 2 ^ 15 := Nat.pow_le_pow_right (by omega) hm2
    have e : ((2 ^ m : Nat) : Int) = (2 : Int) ^ m := by simp
    rw [← e]
    generalize 2 ^ m = z at *
    simp [wrap64]
    omega, rfl⟩
  obtain ⟨hP, hP2⟩ := hP
  have hnP : ¬ (P : Int) < (((pos c len).length : Nat) : Int) := by omega
  have HN := hide hn
  clear ok okb hpar hxs hP2 hn
  go_enter Try.func9, Try.ntmps9
  go_wp2_with fail
  refine (unhide CG).mono ?_
  rintro e w0 ⟨rfl, rfl⟩
  go_wp2_with fail
  refine (unhide CR).mono ?_
  rintro e w1 ⟨u, s, rfl, rose⟩
  have RO := hide rose
  obtain ⟨ua, ucap, rfl, hroom⟩ := rose.room
  have LE0 := hide (show Len w1 (w1.alloc (.cells xs 3)) len (fun _ => 0) from ⟨by rw [unhide HX]; exact Box.made w1 3 _, (Below.refl _ w1).alloc (Nat.le_refl _) _⟩)
  by_cases h1 : (pos c len).length = 1
  · obtain ⟨ia, icap, e, hi⟩ := rose.ints
    cases e
    obtain ⟨b, off, rfl, hc⟩ := hi 0 (by omega)
    have hsl := (re_pos rose.re (i := 0) (by omega)).1
    have x0 : xs[s 0]? = some (.int .i64 0) := by rw [unhide HX, sRow_at _ _ _ hsl]
    have hbl := lt_of_cell hc
    have hs' : ((s 0 : Nat) : Int) < (len : Int) := by omega
    have LN := hide (show Lns c len m s (fun x => if x = s 0 then 1 else 0) from ⟨rose.re, rose.up, fun _ => if_pos rfl, fun h => absurd h1 h, fun x hx hn => if_neg (fun e => hn 0 (by omega) e.symm)⟩)
    have BEL := hide rose.bel
    have BX := hide (show Len w1 (w1.alloc (.cells (xs.setIfInBounds (s 0) (.int .i64 1)) 3)) len (fun x => if x = s 0 then 1 else 0) from by
      refine ⟨?_, (Below.refl _ w1).alloc (Nat.le_refl _) _⟩
      rw [unhide HX, sRow_set, sRow_congr (g := fun r => .int .i64 (((if r = s 0 then 1 else 0 : Nat)) : Int)) (fun r _ => by by_cases e : r = s 0 <;> simp [e])]
      exact Box.made w1 3 _)
    have H1 := hide h1
    have hc' : w1.cell? ⟨b, off, none⟩ = some (.int .i64 ((s 0 : Nat) : Int)) := by simpa using hc
    clear rose CR CG hi hc
    generalize s 0 = s0 at *
    go_wp2
    go_ret2
    exact ⟨_, s, _, rfl, (unhide BX).ints _, unhide LN, (unhide BEL).trans ((unhide BX).bel.mono (unhide BEL).size)⟩
  · have h1' : ((((pos c len).length : Nat) : Int) == 1) = false := beq_eq_false_iff_ne.2 (by omega)
    have B1 := hide (show Below w1.heap.size w1 (w1.alloc (.cells xs 3)) from (Below.refl _ w1).alloc (Nat.le_refl _) _)
    have CW := hide (wei16 _ _ len (pos c len).length c (fun i => (s i : Int)) (w1.alloc (.cells xs 3)) (((unhide SRC).keep rose.bel).keep (unhide B1)) (rose.ints.keep (unhide B1)) (fun i hi => by have := (re_pos rose.re hi).1; omega) (by omega))
    clear rose CR CG
    go_wp2_with fail
    refine (unhide CW).mono ?_
    rintro e w2 ⟨r2, rfl, i2, b2⟩
    have SY := hide (sym_of (unhide RO).re (unhide RO).up)
    have CS := hide (shr15 (unhide PAR) r2 _ m w2 i2 (unhide SY) (by rw [wts_len]; omega) hm hm2 (by rw [wts_len]; exact unhide HN) (by rw [wts_len]; exact h1) (row_max15 (fun x hx => by
      simp only [wts, List.mem_map, List.mem_range] at hx
      obtain ⟨i, hi, rfl⟩ := hx
      exact (unhide OK _ (by simpa using (re_pos (unhide RO).re hi).1)).2)))
    rw [wts_len] at CS
    have B2 := hide b2
    clear i2 b2 CW
    go_wp2_with fail
    refine (unhide CS).mono ?_
    rintro e w3 ⟨g, rfl, hg1, hg2, i3, b3⟩
    have B3 := hide (show Below (w1.alloc (.cells xs 3)).heap.size (w1.alloc (.cells xs 3)) w3 from (unhide B2).trans (b3.mono (unhide B2).size))
    have LE3 := hide (show Len w1 w3 len (fun _ => 0) from ⟨(unhide LE0).box.below (unhide B3) (unhide LE0).box.lt, (unhide LE0).bel.trans ((unhide B3).mono (unhide LE0).bel.size)⟩)
    have hgl : w1.heap.size < g := by
      have h5 := (unhide B2).size
      rw [World.size_alloc] at h5
      omega
    have I3 := hide i3
    have SPL := hide (show ∀ r, r < m → sprd (wts c (fun i => (s i : Int)) (pos c len).length) (m - 1) (2 * (pos c len).length - 2) r ≤ (pos c len).length from fun r hr => by
      have := spr_le (unhide SY) (m - 1) (2 * (pos c len).length - 2) r (by
        have := row_enough (wts c (fun i => (s i : Int)) (pos c len).length) (m - 1) (by rw [wts_len, show m - 1 + 1 = m by omega]; exact unhide HN)
        rwa [wts_len] at this) (by omega)
      rwa [wts_len] at this)
    generalize ht : (fun r => sprd (wts c (fun i => (s i : Int)) (pos c len).length) (m - 1) (2 * (pos c len).length - 2) r) = t at *
    have HT := hide ht
    have I4 := hide (show ∀ k, k < m → w3.cell? ⟨g, k, none⟩ = some (.int .i64 ((t k : Nat) : Int)) from fun k hk => by rw [← ht]; exact unhide I3 k hk)
    have SP4 := hide (show ∀ r, r < m → t r ≤ (pos c len).length from fun r hr => by rw [← ht]; exact unhide SPL r hr)
    clear i3 b3 CS hg1 I3 SPL ht B1 B2 LE0
    go_wp2
    go_loopw [48] (fun x wr => ∃ (r : Nat) (M : Nat → Nat), r ≤ m ∧ x = .int .i64 r ∧ Len w1 wr len M ∧ Cnt c len s t M r 0 ∧ Upd (fun k => k = w1.heap.size) w3 wr) (fun x _ => m - (intOf x).toNat)
    case atStart =>
      exact ⟨0, fun _ => 0, Nat.zero_le _, rfl, unhide LE3, ⟨fun p _ => by simp [sumN], fun _ _ _ => rfl⟩, Upd.refl _ w3⟩
    case round =>
      obtain ⟨r, M, hr, rfl, ln, cn, u⟩ := hrel
      have LN := hide ln
      have CN := hide cn
      have UU := hide u
      by_cases hlt : r < m
      · have hlt' : (r : Int) < (m : Int) := by omega
        have ct := (u.cell (p := ⟨g, r, none⟩) hg2 (fun e => by simp at e; omega)).trans (unhide I4 r hlt)
        have htr := unhide SP4 r hlt
        have htc : ((t r : Nat) : Int) ≤ (ucap : Int) := by omega
        clear ln cn u
        go_wp2
        go_loopw [56] (fun x wi => ∃ (k : Nat) (M : Nat → Nat), k ≤ t r ∧ x = .int .i64 k ∧ Len w1 wi len M ∧ Cnt c len s t M r k ∧ Upd (fun k => k = w1.heap.size) w3 wi) (fun x _ => t r - (intOf x).toNat)
        case atStart => exact ⟨0, M, Nat.zero_le _, rfl, unhide LN, unhide CN, unhide UU⟩
        case round =>
          clear LN CN UU ct
          obtain ⟨k, M, hk, rfl, ln, cn, u⟩ := hrel
          have LN := hide ln
          have CN := hide cn
          have UU := hide u
          by_cases hlk : k < t r
          · have hlk' : (k : Int) < ((t r : Nat) : Int) := by omega
            obtain ⟨ia, icap, e, hi⟩ := (unhide RO).ints
            cases e
            obtain ⟨b, off, rfl, hc⟩ := hi k (by omega)
            have hc' : wr.cell? ⟨b, off + k, none⟩ = some (.int .i64 ((s k : Nat) : Int)) := (ln.bel.cell (p := ⟨b, off + k, none⟩) (lt_of_cell hc)).trans hc
            have hsl := (re_pos (unhide RO).re (i := k) (by omega)).1
            have hs' : ((s k : Nat) : Int) < (len : Int) := by omega
            have cs := (ln.box.cell (s k)).trans (sRow_at _ _ _ hsl)
            have fs := ln.box.free (s k)
            have hsm := cn.small k (by omega)
            have PUT := hide (ln.put (s k) (M (s k) + 1))
            have STP := hide (cn.step (unhide RO).re (by omega))
            clear ln cn u hi hc
            generalize s k = sk at *
            generalize M sk = z at *
            go_wp2
            go_roundw
            case rel =>
              refine ⟨k + 1, _, by omega, by go_num, ?_, unhide STP, (unhide UU).setCell (p := ⟨w1.heap.size, sk, none⟩) rfl _⟩
              have := unhide PUT
              rw [show ((z + 1 : Nat) : Int) = (z : Int) + 1 by omega] at this
              exact this
            case measure => simp [intOf]; omega
          · obtain rfl : k = t r := by omega
            have hnl : ¬ ((t r : Nat) : Int) < ((t r : Nat) : Int) := by omega
            clear ln cn u hlk
            go_wp2
            go_roundw
            case rel => exact ⟨r + 1, M, by omega, by go_num, unhide LN, (unhide CN).next, unhide UU⟩
            case measure => simp [intOf]; omega
      · obtain rfl : r = m := by omega
        have hnl : ¬ (r : Int) < (r : Int) := by omega
        have LNS := hide (show Lns c len r s M from ⟨(unhide RO).re, (unhide RO).up, fun h => absurd h h1, fun _ p hp => by
          rw [cn.at_ p hp, if_neg (Nat.not_lt_zero p), Nat.add_zero, ← unhide HT], cn.none⟩)
        have BEL := hide ((unhide RO).bel.trans (ln.bel.mono (unhide RO).bel.size))
        clear ln cn u hlt
        go_wp2
        go_ret2
        exact ⟨_, s, M, rfl, (unhide LN).ints _, unhide LNS, unhide BEL⟩
end Go.Proofs.Ytcfnbbelbadmkaa.Bst
