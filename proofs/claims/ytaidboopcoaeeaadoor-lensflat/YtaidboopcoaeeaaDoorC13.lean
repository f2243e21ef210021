/-
  Contracts: slices.swapRangeCmpFunc, slices.rotateCmpFunc. Conditions: the places lie in the row.
  Contract: slices.symMergeCmpFunc. Conditions: the places lie in the row.
  Contracts: slices.stableCmpFunc, slices.SortStableFunc. Conditions: the row is not long.
  Contracts: size.good and all that it calls; size.rising. Conditions: the slice reads as integers, and they are few.
  Contract: size.rising. Conditions: the slice reads as integers that may be counts, and they are few.
-/
import Derived.Test.YtaidboopcoaeeaaDoorC12
import Derived.Maps.AppendAt
namespace Go.Proofs.YtaidboopcoaeeaaDoor.ZRot
open Go.ChangeShapes Go.WideShapes Go.ChangeAt Go.RowKit Go.Proofs.YtaidboopcoaeeaaDoor.Core Go.Proofs.YtaidboopcoaeeaaDoor.Gnd Go.Proofs.YtaidboopcoaeeaaDoor.ZSrt

set_option maxHeartbeats 1000000 in
theorem swp33 (g n cap a b m : Nat) (f : Nat → Nat) (cf : Value) (w : World) (hr : Row w g n f) (h1 : a + m ≤ b) (h2 : b + m ≤ n) (hn : n ≤ 100000) :
    Calls Tryd.prog 94 #[.slice (some ⟨g, 0, none⟩) n cap, .int .i64 a, .int .i64 b, .int .i64 m, cf] w fun e w' => e = .returned (.tuple #[]) ∧ Row w' g n (fun k => f (sr a b m k)) ∧ Upd (fun k => k = g) w w' := by
  have RR := hide hr
  clear hr
  go_enter Tryd.func94, Tryd.ntmps94
  go_wp2
  go_loopw [10] (fun i wr => ∃ k : Nat, k ≤ m ∧ i = .int .i64 k ∧ Row wr g n (fun j => f (sr a b k j)) ∧ Upd (fun k => k = g) w wr) (fun i _ => m - (intOf i).toNat)
  case atStart => exact ⟨0, Nat.zero_le _, rfl, (unhide RR).congr (fun i _ => by rw [sr_zero]), Upd.refl _ w⟩
  case round =>
    obtain ⟨k, hk, rfl, row, u⟩ := hrel
    have ROW := hide row
    have UU := hide u
    by_cases hlt : k < m
    · have hlt' : (k : Int) < (m : Int) := by omega
      obtain ⟨c1, f1⟩ := row (a + k) (by omega)
      obtain ⟨c2, f2⟩ := row (b + k) (by omega)
      clear row u
      have EX := hide (show Row ((wr.setCell ⟨g, a + k, none⟩ (.int .i64 (f (sr a b k (b + k))))).setCell ⟨g, b + k, none⟩ (.int .i64 (f (sr a b k (a + k))))) g n (fun j => f (sr a b (k + 1) j)) from ((unhide ROW).swap (a + k) (b + k)).congr (fun i _ => by rw [sr_step a b k i (by omega)]))
      have hne : a + k ≠ b + k := by omega
      have i1 : (a : Int) + k < n := by omega
      have i2 : (b : Int) + k < n := by omega
      go_wp2
      go_region
      go_wp2
      go_roundw
      case rel =>
        exact ⟨k + 1, by omega, by go_num, unhide EX, (((unhide UU).setCell (p := ⟨g, a + k, none⟩) rfl _).setCell (p := ⟨g, b + k, none⟩) rfl _).drewN 1⟩
      case measure => simp [intOf]; omega
    · obtain rfl : k = m := by omega
      have hnl : ¬ (k : Int) < (k : Int) := by omega
      clear row u
      go_wp2
      go_end0
      exact ⟨rfl, unhide ROW, unhide UU⟩

/-- What is left to do of a turn. -/
structure Rest (a m b i j : Nat) (f f1 : Nat → Nat) : Prop where
  out : ∀ k, (k < m - i ∨ m + j ≤ k) → f1 k = f (ro a m b k)
  left : ∀ k, m - i ≤ k → k < m - i + j → f (ro a m b k) = f1 (k + i)
  right : ∀ k, m - i + j ≤ k → k < m + j → f (ro a m b k) = f1 (k - j)
theorem Rest.start (a m b : Nat) (f : Nat → Nat) (h1 : a < m) (h2 : m < b) : Rest a m b (m - a) (b - m) f f := by
  refine ⟨fun k hk => ?_, fun k hk hl => ?_, fun k hk hl => ?_⟩
  · unfold ro; rw [if_neg (by omega)]
  · unfold ro; rw [if_pos (by omega), if_pos (by omega)]
  · unfold ro; rw [if_pos (by omega), if_neg (by omega)]
theorem sr_1 {a b m k : Nat} (h : a ≤ k ∧ k < a + m) : sr a b m k = k - a + b := by unfold sr; rw [if_pos h]
theorem sr_2 {a b m k : Nat} (h : b ≤ k ∧ k < b + m) (h0 : a + m ≤ b) : sr a b m k = k - b + a := by unfold sr; rw [if_neg (by omega), if_pos h]
theorem sr_3 {a b m k : Nat} (h : ¬ (a ≤ k ∧ k < a + m)) (h0 : ¬ (b ≤ k ∧ k < b + m)) : sr a b m k = k := by unfold sr; rw [if_neg h, if_neg h0]
theorem Rest.more {a m b i j : Nat} {f f1 : Nat → Nat} (h : Rest a m b i j f f1) (hi : j < i) (hm : i ≤ m) (h0 : 0 < j) : Rest a m b (i - j) j f (fun k => f1 (sr (m - i) m j k)) := by
  refine ⟨fun k hk => ?_, fun k hk hl => ?_, fun k hk hl => ?_⟩
  · by_cases e : m - i ≤ k ∧ k < m - i + j
    · show f1 (sr (m - i) m j k) = _
      rw [sr_1 e, h.left k e.1 e.2]
      congr 1; omega
    · show f1 (sr (m - i) m j k) = _
      rw [sr_3 e (by omega), h.out k (by omega)]
  · show _ = f1 (sr (m - i) m j (k + (i - j)))
    rw [sr_2 (by omega) (by omega), h.right k (by omega) (by omega)]
    congr 1; omega
  · show _ = f1 (sr (m - i) m j (k - j))
    rw [sr_3 (by omega) (by omega), h.right k (by omega) (by omega)]
theorem Rest.less {a m b i j : Nat} {f f1 : Nat → Nat} (h : Rest a m b i j f f1) (hi : i < j) (hm : i ≤ m) (h0 : 0 < i) : Rest a m b i (j - i) f (fun k => f1 (sr (m - i) (m + j - i) i k)) := by
  refine ⟨fun k hk => ?_, fun k hk hl => ?_, fun k hk hl => ?_⟩
  · by_cases e : m + j - i ≤ k ∧ k < m + j - i + i
    · show f1 (sr (m - i) (m + j - i) i k) = _
      rw [sr_2 e (by omega), h.right k (by omega) (by omega)]
      congr 1; omega
    · show f1 (sr (m - i) (m + j - i) i k) = _
      rw [sr_3 (by omega) e, h.out k (by omega)]
  · show _ = f1 (sr (m - i) (m + j - i) i (k + i))
    rw [sr_3 (by omega) (by omega), h.left k (by omega) (by omega)]
  · show _ = f1 (sr (m - i) (m + j - i) i (k - (j - i)))
    rw [sr_1 (by omega), h.left k (by omega) (by omega)]
    congr 1; omega
theorem Rest.done {a m b i : Nat} {f f1 : Nat → Nat} (h : Rest a m b i i f f1) (hm : i ≤ m) (k : Nat) : f1 (sr (m - i) m i k) = f (ro a m b k) := by
  by_cases e : m - i ≤ k ∧ k < m - i + i
  · rw [sr_1 e, h.left k e.1 e.2]
    congr 1; omega
  · by_cases e2 : m ≤ k ∧ k < m + i
    · rw [sr_2 e2 (by omega), h.right k (by omega) (by omega)]
      congr 1; omega
    · rw [sr_3 e e2, h.out k (by omega)]
set_option maxHeartbeats 1000000 in
theorem rot32 (g n cap a m b : Nat) (f : Nat → Nat) (cf : Value) (w : World) (hr : Row w g n f) (h1 : a < m) (h2 : m < b) (h3 : b ≤ n) (hn : n ≤ 100000) :
    Calls Tryd.prog 93 #[.slice (some ⟨g, 0, none⟩) n cap, .int .i64 a, .int .i64 m, .int .i64 b, cf] w fun e w' => e = .returned (.tuple #[]) ∧ Row w' g n (fun k => f (ro a m b k)) ∧ Upd (fun k => k = g) w w' := by
  have RR := hide hr
  clear hr
  have e1 : (m : Int) - a = ((m - a : Nat) : Int) := by omega
  have e2 : (b : Int) - m = ((b - m : Nat) : Int) := by omega
  have ST := hide (Rest.start a m b f h1 h2)
  have b1 : m - a ≤ m := by omega
  have b2 : 0 < m - a := by omega
  have b3 : m + (b - m) = b := by omega
  have b4 : 0 < b - m := by omega
  have B := hide (And.intro b1 (And.intro b2 (And.intro b3 b4)))
  clear b1 b2 b3 b4
  go_enter Tryd.func93, Tryd.ntmps93
  go_wp2
  go_loopw [10, 11] (fun x y wr => ∃ (i j : Nat) (f1 : Nat → Nat), x = .int .i64 i ∧ y = .int .i64 j ∧ 0 < i ∧ 0 < j ∧ i ≤ m ∧ m + j ≤ b ∧ Rest a m b i j f f1 ∧ Row wr g n f1 ∧ Upd (fun k => k = g) w wr) (fun x y _ => (intOf x).toNat + (intOf y).toNat)
  case atStart =>
    obtain ⟨b1, b2, b3, b4⟩ := unhide B
    exact ⟨m - a, b - m, f, by go_num, by go_num, b2, b4, b1, by omega, unhide ST, unhide RR, Upd.refl _ w⟩
  case round =>
    obtain ⟨i, j, f1, rfl, rfl, hi, hj, him, hjb, rest, row, u⟩ := hrel
    have REST := hide rest
    have ROW := hide row
    have UU := hide u
    clear rest row u e1 e2
    have e3 : (m : Int) - i = ((m - i : Nat) : Int) := by omega
    by_cases hij : i = j
    · subst hij
      go_wp2_with fail
      refine (swp33 g n cap (m - i) m i f1 _ _ (unhide ROW) (by omega) (by omega) hn).mono ?_
      rintro e w1 ⟨rfl, r1, u1⟩
      have R1 := hide (r1.congr (fun k _ => (unhide REST).done him k))
      have U1 := hide ((unhide UU).trans u1)
      clear r1 u1
      go_wp2
      go_end0
      exact ⟨rfl, unhide R1, unhide U1⟩
    · have hne : ¬ (i : Int) = (j : Int) := by omega
      by_cases hlt : j < i
      · have hlt' : (j : Int) < (i : Int) := by omega
        have e4 : (i : Int) - j = ((i - j : Nat) : Int) := by omega
        go_wp2_with fail
        refine (swp33 g n cap (m - i) m j f1 _ _ (unhide ROW) (by omega) (by omega) hn).mono ?_
        rintro e w1 ⟨rfl, r1, u1⟩
        have R1 := hide r1
        have U1 := hide ((unhide UU).trans u1)
        clear r1 u1
        go_wp2
        go_roundw
        case rel => exact ⟨i - j, j, _, by go_num, rfl, by omega, hj, by omega, hjb, (unhide REST).more hlt him hj, unhide R1, unhide U1⟩
        case measure => simp [intOf]; omega
      · have hlt' : ¬ (j : Int) < (i : Int) := by omega
        have e4 : (j : Int) - i = ((j - i : Nat) : Int) := by omega
        have e5 : (m : Int) + j - i = ((m + j - i : Nat) : Int) := by omega
        go_wp2_with fail
        refine (swp33 g n cap (m - i) (m + j - i) i f1 _ _ (unhide ROW) (by omega) (by omega) hn).mono ?_
        rintro e w1 ⟨rfl, r1, u1⟩
        have R1 := hide r1
        have U1 := hide ((unhide UU).trans u1)
        clear r1 u1
        go_wp2
        go_roundw
        case rel => exact ⟨i, j - i, _, rfl, by go_num, hi, by omega, him, by omega, (unhide REST).less (by omega) him hi, unhide R1, unhide U1⟩
        case measure => simp [intOf]; omega
end Go.Proofs.YtaidboopcoaeeaaDoor.ZRot

namespace Go.Proofs.YtaidboopcoaeeaaDoor.ZSym
open Go.ChangeShapes Go.WideShapes Go.ChangeAt Go.RowKit Go.Proofs.YtaidboopcoaeeaaDoor.Core Go.Proofs.YtaidboopcoaeeaaDoor.Gnd Go.Proofs.YtaidboopcoaeeaaDoor.ZSrt Go.Proofs.YtaidboopcoaeeaaDoor.ZIns Go.Proofs.YtaidboopcoaeeaaDoor.ZSyl Go.Proofs.YtaidboopcoaeeaaDoor.ZSyr Go.Proofs.YtaidboopcoaeeaaDoor.ZRot

/-- Where the two rows are cut: s is the cut of the first, mid + m - s that of the second. -/
structure Cut (c : Nat → Int) (f : Nat → Nat) (a m b mid s : Nat) : Prop where
  low : s = a ∨ mid + m - s = b ∨ (a < s ∧ mid + m - s < b ∧ c (f (s - 1)) ≤ c (f (mid + m - s)))
  high : s = m ∨ mid = s ∨ (s < m ∧ m < mid + m - s ∧ c (f (mid + m - s - 1)) < c (f s))
theorem ro_at {a m b k : Nat} (h1 : a ≤ k) (h2 : k < a + (b - m)) (hb : k < b) : ro a m b k = k + (m - a) := by unfold ro; rw [if_pos ⟨h1, hb⟩, if_pos h2]
theorem ro_le {a m b k : Nat} (h1 : a ≤ k) (h2 : ¬ k < a + (b - m)) (hb : k < b) : ro a m b k = k - (b - m) := by unfold ro; rw [if_pos ⟨h1, hb⟩, if_neg h2]
theorem ro_out {a m b k : Nat} (h : k < a ∨ b ≤ k) : ro a m b k = k := by unfold ro; rw [if_neg (by omega)]
theorem ro_re (a m b : Nat) (f : Nat → Nat) (h1 : a ≤ m) (h2 : m ≤ b) : Re a b f (fun k => f (ro a m b k)) := by
  refine ⟨ro a m b, ro a (a + (b - m)) b, fun k => ?_, fun k hk => ?_, fun k hk hl => ?_, fun _ => rfl⟩
  · by_cases e : a ≤ k ∧ k < b
    · constructor
      · by_cases e1 : k < a + (b - (a + (b - m)))
        · rw [ro_at (m := a + (b - m)) e.1 e1 e.2, ro_le (by omega) (by omega) (by omega)]
          omega
        · rw [ro_le (m := a + (b - m)) e.1 e1 e.2, ro_at (by omega) (by omega) (by omega)]
          omega
      · by_cases e1 : k < a + (b - m)
        · rw [ro_at (m := m) e.1 e1 e.2, ro_le (by omega) (by omega) (by omega)]
          omega
        · rw [ro_le (m := m) e.1 e1 e.2, ro_at (by omega) (by omega) (by omega)]
          omega
    · rw [ro_out (m := a + (b - m)) (by omega), ro_out (m := m) (k := k) (by omega), ro_out (by omega)]
      exact ⟨rfl, rfl⟩
  · exact ⟨ro_out hk, ro_out hk⟩
  · by_cases e1 : k < a + (b - m)
    · rw [ro_at hk e1 hl]
      by_cases e2 : k < a + (b - (a + (b - m)))
      · rw [ro_at hk e2 hl]; omega
      · rw [ro_le hk e2 hl]; omega
    · rw [ro_le hk e1 hl]
      by_cases e2 : k < a + (b - (a + (b - m)))
      · rw [ro_at hk e2 hl]; omega
      · rw [ro_le hk e2 hl]; omega
/-- Behind the turn: what stands ahead of mid is not above what stands behind it, and each half is two rows that rise. -/
structure Half (c : Nat → Int) (f : Nat → Nat) (a s mid e b : Nat) : Prop where
  l1 : Up c f a s
  l2 : Up c f s mid
  r1 : Up c f mid e
  r2 : Up c f e b
  all : ∀ x y, a ≤ x → x < mid → mid ≤ y → y < b → c (f x) ≤ c (f y)
theorem half_of {c : Nat → Int} {f : Nat → Nat} {a m b mid s : Nat} (u1 : Up c f a m) (u2 : Up c f m b) (hs : a ≤ s) (hsm : s ≤ m) (hsd : s ≤ mid) (he : mid + m - s ≤ b) (cut : Cut c f a m b mid s) :
    Half c (fun k => f (ro s m (mid + m - s) k)) a s mid (mid + m - s) b := by
  have A : ∀ x, a ≤ x → x < s → ro s m (mid + m - s) x = x := fun x h1 h2 => ro_out (by omega)
  have B : ∀ x, s ≤ x → x < mid → ro s m (mid + m - s) x = x + (m - s) := fun x h1 h2 => ro_at h1 (by omega) (by omega)
  have C : ∀ x, mid ≤ x → x < mid + m - s → ro s m (mid + m - s) x = x - (mid - s) := fun x h1 h2 => by rw [ro_le (by omega) (by omega) h2]; omega
  have D : ∀ x, mid + m - s ≤ x → ro s m (mid + m - s) x = x := fun x h1 => ro_out (by omega)
  have le1 : ∀ i j, a ≤ i → i ≤ j → j < m → c (f i) ≤ c (f j) := fun i j h1 h2 h3 => by
    by_cases e : i = j
    · subst e; exact Int.le_refl _
    · exact u1 i j h1 (by omega) h3
  have le2 : ∀ i j, m ≤ i → i ≤ j → j < b → c (f i) ≤ c (f j) := fun i j h1 h2 h3 => by
    by_cases e : i = j
    · subst e; exact Int.le_refl _
    · exact u2 i j h1 (by omega) h3
  refine ⟨fun x y h1 h2 h3 => ?_, fun x y h1 h2 h3 => ?_, fun x y h1 h2 h3 => ?_, fun x y h1 h2 h3 => ?_, fun x y h1 h2 h3 h4 => ?_⟩
  · show c (f _) ≤ c (f _)
    rw [A x h1 (by omega), A y (by omega) h3]
    exact u1 _ _ h1 h2 (by omega)
  · show c (f _) ≤ c (f _)
    rw [B x h1 (by omega), B y (by omega) h3]
    exact u2 _ _ (by omega) (by omega) (by omega)
  · show c (f _) ≤ c (f _)
    rw [C x h1 (by omega), C y (by omega) h3]
    exact u1 _ _ (by omega) (by omega) (by omega)
  · show c (f _) ≤ c (f _)
    rw [D x h1, D y (by omega)]
    exact u2 _ _ (by omega) h2 h3
  · show c (f _) ≤ c (f _)
    by_cases ex : x < s
    · rw [A x h1 ex]
      by_cases ey : y < mid + m - s
      · rw [C y h3 ey]
        exact le1 _ _ h1 (by omega) (by omega)
      · rw [D y (by omega)]
        rcases cut.low with h | h | ⟨p1, p2, p3⟩
        · omega
        · omega
        · have q1 := le1 x (s - 1) h1 (by omega) (by omega)
          have q2 := le2 (mid + m - s) y (by omega) (by omega) h4
          omega
    · rw [B x (by omega) h2]
      by_cases ey : y < mid + m - s
      · rw [C y h3 ey]
        rcases cut.high with h | h | ⟨p1, p2, p3⟩
        · omega
        · omega
        · have q1 := le2 (x + (m - s)) (mid + m - s - 1) (by omega) (by omega) (by omega)
          have q2 := le1 s (y - (mid - s)) (by omega) (by omega) (by omega)
          omega
      · rw [D y (by omega)]
        exact le2 _ _ (by omega) (by omega) h4
/-- Two halves that rise, the first not above the second. -/
theorem up_join {c : Nat → Int} {f f1 f2 : Nat → Nat} {a mid b : Nat} (all : ∀ x y, a ≤ x → x < mid → mid ≤ y → y < b → c (f x) ≤ c (f y)) (r1 : Re a mid f f1) (u1 : Up c f1 a mid) (r2 : Re mid b f1 f2) (u2 : Up c f2 mid b) : Up c f2 a b := fun x y h1 h2 h3 => by
  by_cases ey : y < mid
  · rw [r2.out x (by omega), r2.out y (by omega)]
    exact u1 x y h1 h2 ey
  · by_cases ex : x < mid
    · rw [r2.out x (by omega)]
      obtain ⟨i, i1, i2, i3⟩ := r1.into x h1 ex
      obtain ⟨j, j1, j2, j3⟩ := r2.into y (by omega) h3
      rw [i3, j3, r1.out j (by omega)]
      exact all i j i1 i2 j1 j2
    · exact u2 x y (by omega) h2 h3
theorem ro_same {s m e k : Nat} (h : s = m ∨ e = m) : ro s m e k = k := by
  by_cases h1 : s ≤ k ∧ k < e
  · by_cases h2 : k < s + (e - m)
    · rw [ro_at h1.1 h2 h1.2]; omega
    · rw [ro_le h1.1 h2 h1.2]; omega
  · exact ro_out (by omega)
theorem Up.same {c : Nat → Int} {f f' : Nat → Nat} {a b : Nat} (h : Up c f a b) (e : ∀ k, a ≤ k → k < b → f' k = f k) : Up c f' a b := fun x y h1 h2 h3 => by
  rw [e x h1 (by omega), e y (by omega) h3]
  exact h x y h1 h2 h3
/-- What the search knows. -/
structure Find (c : Nat → Int) (f : Nat → Nat) (N lo hi s r : Nat) : Prop where
  b1 : lo ≤ s
  b2 : s ≤ r
  b3 : r ≤ hi
  low : ∀ x, lo ≤ x → x < s → c (f x) ≤ c (f (N - 1 - x))
  high : ∀ x, r ≤ x → x < hi → c (f (N - 1 - x)) < c (f x)
theorem Find.start (c : Nat → Int) (f : Nat → Nat) (N lo hi : Nat) (h : lo ≤ hi) : Find c f N lo hi lo hi := ⟨Nat.le_refl _, h, Nat.le_refl _, fun x _ _ => by omega, fun x _ _ => by omega⟩
theorem Find.up {c : Nat → Int} {f : Nat → Nat} {a m b N lo hi s r h : Nat} (t : Find c f N lo hi s r) (u1 : Up c f a m) (u2 : Up c f m b) (h1 : a ≤ lo) (h2 : hi ≤ m) (h3 : N ≤ lo + b) (h4 : hi + m ≤ N) (hs : s ≤ h) (hr : h < r) (q : c (f h) ≤ c (f (N - 1 - h))) : Find c f N lo hi (h + 1) r := by
  have := t.b3
  refine ⟨by have := t.b1; omega, by omega, t.b3, fun x x1 x2 => ?_, t.high⟩
  by_cases e : x = h
  · subst e; exact q
  · have a1 := u1 x h (by omega) (by omega) (by omega)
    have a2 := u2 (N - 1 - h) (N - 1 - x) (by omega) (by omega) (by omega)
    omega
theorem Find.down {c : Nat → Int} {f : Nat → Nat} {a m b N lo hi s r h : Nat} (t : Find c f N lo hi s r) (u1 : Up c f a m) (u2 : Up c f m b) (h1 : a ≤ lo) (h2 : hi ≤ m) (h3 : N ≤ lo + b) (h4 : hi + m ≤ N) (hs : s ≤ h) (hr : h < r) (q : c (f (N - 1 - h)) < c (f h)) : Find c f N lo hi s h := by
  have := t.b3
  have := t.b1
  refine ⟨t.b1, hs, by omega, t.low, fun x x1 x2 => ?_⟩
  by_cases e : x = h
  · subst e; exact q
  · have a1 := u1 h x (by omega) (by omega) (by omega)
    have a2 := u2 (N - 1 - x) (N - 1 - h) (by omega) (by omega) (by omega)
    omega
theorem Find.cut {c : Nat → Int} {f : Nat → Nat} {a m b mid lo hi s : Nat} (t : Find c f (mid + m) lo hi s s) (h : (m > mid ∧ lo = mid + m - b ∧ hi = mid) ∨ (m ≤ mid ∧ lo = a ∧ hi = m)) (ha : a ≤ lo) (hb : mid + m ≤ lo + b) (hm : m < b) (hM : mid < m → b ≤ mid + m) : Cut c f a m b mid s := by
  have b1 := t.b1
  have b3 := t.b3
  constructor
  · by_cases e : s = lo
    · rcases h with ⟨h1, h2, h3⟩ | ⟨h1, h2, h3⟩
      · exact .inr (.inl (by omega))
      · exact .inl (by omega)
    · have := t.low (s - 1) (by omega) (by omega)
      rw [show mid + m - 1 - (s - 1) = mid + m - s by omega] at this
      exact .inr (.inr ⟨by omega, by omega, this⟩)
  · by_cases e : s = hi
    · rcases h with ⟨h1, h2, h3⟩ | ⟨h1, h2, h3⟩
      · exact .inr (.inl (by omega))
      · exact .inl (by omega)
    · have := t.high s (Nat.le_refl _) (by omega)
      rw [show mid + m - 1 - s = mid + m - s - 1 by omega] at this
      exact .inr (.inr ⟨by omega, by omega, this⟩)
set_option maxRecDepth 20000 in
set_option maxHeartbeats 8000000 in
theorem sym30 (K : Nat) (eg : ∀ args w, (callFunc K args).run Tryd.prog w = .ok (.enter K args) w) (cb : Array Value) (g n cap len : Nat) (c : Nat → Int) (hn : n ≤ 100000) : ∀ (d a m b : Nat) (f : Nat → Nat) (w : World), b - a ≤ d → a < m → m < b → b ≤ n →
    Row w g n f → Rg f n len → Asks K cb w g len c → Up c f a m → Up c f m b →
    Calls Tryd.prog 91 #[.slice (some ⟨g, 0, none⟩) n cap, .int .i64 a, .int .i64 m, .int .i64 b, .func (.func K) #[] cb] w fun e w' => e = .returned (.tuple #[]) ∧ ∃ f', Re a b f f' ∧ Up c f' a b ∧ Row w' g n f' ∧ Upd (fun k => k = g) w w' := by
  intro d
  induction d with
  | zero => intro a m b f w h0 h1 h2; omega
  | succ d ih =>
    intro a m b f w h0 h1 h2 h3 hr rg ask up1 up2
    have IH := hide ih
    clear ih
    by_cases hl : m = a + 1
    · rw [hl] at up2 ⊢
      exact syl30 K eg cb g n cap a (a + 1) b len f c w hr rg ask rfl (by omega) h3 hn up2
    by_cases hb : b = m + 1
    · exact syr30 K eg cb g n cap a m b len f c w hr rg ask hb hl h1 h3 hn up1
    have RR := hide hr
    have RG := hide rg
    have ASK := hide ask
    have UP1 := hide up1
    have UP2 := hide up2
    have e1 : ((m : Int) - a == 1) = false := beq_eq_false_iff_ne.2 (by omega)
    have e2 : ((b : Int) - m == 1) = false := beq_eq_false_iff_ne.2 (by omega)
    obtain ⟨mid, hmid⟩ : ∃ x, x = (a + b) / 2 := ⟨_, rfl⟩
    have em : ((a : Int) + b) / 2 = (mid : Int) := by omega
    have k1 : a < mid := by omega
    have k2 : mid < b := by omega
    have HMID := hide hmid
    obtain ⟨N, hN⟩ : ∃ x, x = mid + m := ⟨_, rfl⟩
    have eN : (mid : Int) + m = (N : Int) := by omega
    obtain ⟨p, hp⟩ : ∃ x, x = N - 1 := ⟨_, rfl⟩
    have eP : (N : Int) - 1 = (p : Int) := by omega
    have HN := hide hN
    have HP := hide hp
    have kN : N ≤ 200000 := by omega
    clear hr rg ask up1 up2 hl hb hmid
    by_cases hg : mid < m
    · have hg' : (mid : Int) < (m : Int) := by omega
      obtain ⟨lo, hlo⟩ : ∃ x, x = N - b := ⟨_, rfl⟩
      have eS : (N : Int) - b = (lo : Int) := by have := unhide HMID; omega
      have k3 : a ≤ lo := by have := unhide HMID; omega
      have k4 : lo ≤ mid := by omega
      have k5 : N ≤ lo + b := by omega
      have HLO := hide hlo
      clear hN hp hlo
      go_enter Tryd.func91, Tryd.ntmps91
      go_wp2
      go_loopw [20, 21] (fun x y wr => ∃ (s r : Nat), x = .int .i64 s ∧ y = .int .i64 r ∧ Find c f N lo mid s r ∧ Row wr g n f ∧ Upd (fun k => k = g) w wr) (fun x y _ => (intOf y).toNat - (intOf x).toNat)
      case atStart => exact ⟨lo, mid, rfl, rfl, Find.start _ _ _ _ _ (by omega), unhide RR, Upd.refl _ w⟩
      case round =>
        obtain ⟨s, r, rfl, rfl, find, row, u⟩ := hrel
        have FIND := hide find
        have ROW := hide row
        have UU := hide u
        have b1 := find.b1
        have b2 := find.b2
        have b3 := find.b3
        have hN := unhide HN
        have hp := unhide HP
        have hlo := unhide HLO
        by_cases hlt : s < r
        · have hlt' : (s : Int) < (r : Int) := by omega
          obtain ⟨h, hh⟩ : ∃ h, h = (s + r) / 2 := ⟨_, rfl⟩
          have hh' : ((s : Int) + r) / 2 = (h : Int) := by omega
          have hih : s ≤ h := by omega
          have hhj : h < r := by omega
          clear hh
          obtain ⟨q, hq⟩ : ∃ x, x = N - 1 - h := ⟨_, rfl⟩
          have eQ : (p : Int) - h = (q : Int) := by omega
          obtain ⟨d1, p1⟩ := row h (by omega)
          obtain ⟨d2, p2⟩ := row q (by omega)
          have g1 := unhide RG h (by omega)
          have g2 := unhide RG q (by omega)
          have AK := hide (fun z => (unhide ASK).2 (wr.drewN z) (u.drewN z) _ _ g2 g1)
          have v1 := (unhide ASK).1 _ g1
          have v2 := (unhide ASK).1 _ g2
          have hx : (h : Int) < n := by omega
          have hy : (q : Int) < n := by omega
          by_cases hc : c (f q) < c (f h)
          · have hc' : c (f q) - c (f h) < 0 := by omega
            have LN := hide (find.down (unhide UP1) (unhide UP2) (by omega) (by omega) (by omega) (by omega) hih hhj (by rw [← hq]; exact hc))
            clear row u find hq hN hp hlo
            go_wp2
            go_quiet ((go_at_fn K; exact Calls.quiet_of (unhide AK _)))
            rename_i nq
            have RQ := hide ((unhide ROW).drewN nq)
            have UQ := hide ((unhide UU).drewN nq)
            clear d1 d2 p1 p2 AK
            generalize wr.drewN nq = wq at *
            go_wp2
            go_roundw
            case rel => exact ⟨s, h, rfl, by go_num, unhide LN, unhide RQ, unhide UQ⟩
            case measure => simp [intOf]; omega
          · have hc' : decide (c (f q) - c (f h) < 0) = false := decide_eq_false (by omega)
            have LN := hide (find.up (unhide UP1) (unhide UP2) (by omega) (by omega) (by omega) (by omega) hih hhj (by rw [← hq]; omega))
            clear row u find hq hN hp hlo
            go_wp2
            go_quiet ((go_at_fn K; exact Calls.quiet_of (unhide AK _)))
            rename_i nq
            have RQ := hide ((unhide ROW).drewN nq)
            have UQ := hide ((unhide UU).drewN nq)
            clear d1 d2 p1 p2 AK
            generalize wr.drewN nq = wq at *
            go_wp2
            go_roundw
            case rel => exact ⟨h + 1, r, by go_num, rfl, unhide LN, unhide RQ, unhide UQ⟩
            case measure => simp [intOf]; omega
        · obtain rfl : s = r := by omega
          clear row u find hlt b1 b2 b3
          have hnl : ¬ (s : Int) < (s : Int) := by omega
          obtain ⟨q, hq⟩ : ∃ x, x = N - s := ⟨_, rfl⟩
          have f0 := unhide FIND
          have fb1 := f0.b1
          have fb3 := f0.b3
          have eE : (N : Int) - s = (q : Int) := by omega
          have kas : a ≤ s := by omega
          have ksm : s ≤ m := by omega
          have ksd : s ≤ mid := by omega
          have kqb : q ≤ b := by omega
          have kmq : m ≤ q := by omega
          have kdq : mid ≤ q := by omega
          have QE := hide (show q = mid + m - s by omega)
          have HF := hide (show Half c (fun k => f (ro s m q k)) a s mid q b from by
            rw [unhide QE]
            refine half_of (unhide UP1) (unhide UP2) kas ksm ksd (by omega) ?_
            have f1 := f0
            rw [hN] at f1
            exact f1.cut (by first | exact .inl ⟨by omega, by omega, rfl⟩ | exact .inr ⟨by omega, rfl, rfl⟩) (by omega) (by omega) h2 (by have := unhide HMID; omega))
          have RO := hide (ro_re s m q f ksm kmq)
          have SQ := hide hq
          have rgF : Rg (fun k => f (ro s m q k)) n len := (unhide RO).rg (by omega) (unhide RG)
          have RGF := hide rgF
          clear f0 fb1 fb3 hq rgF hN hp
          by_cases c1 : s < m
          · have c1' : (s : Int) < (m : Int) := by omega
            have c4' : (mid : Int) < (q : Int) := by omega
            by_cases c2 : s < mid
            · have c2' : (s : Int) < (mid : Int) := by omega
              have c3' : (m : Int) < (q : Int) := by omega
              go_wp2_with fail
              refine (rot32 g n cap s m q f _ _ (unhide ROW) c1 (by omega) (by omega) hn).mono ?_
              rintro e wt ⟨rfl, rt, ut⟩
              have RF := hide rt
              have UF := hide ((unhide UU).trans ut)
              clear rt ut
              by_cases c5 : a < s
              · have c5' : (a : Int) < (s : Int) := by omega
                go_wp2_with fail
                refine (unhide IH a s mid _ _ (by omega) (by omega) (by omega) (by omega) (unhide RF) (unhide RGF) ((unhide ASK).keep (unhide UF)) (unhide HF).l1 (unhide HF).l2).mono ?_
                rintro e wl ⟨rfl, f1, re1, up3, r1, u1⟩
                have RE1 := hide re1
                have U3 := hide up3
                have R1 := hide r1
                have UL := hide ((unhide UF).trans u1)
                clear re1 up3 r1 u1
                by_cases c6 : q < b
                · have c6' : (q : Int) < (b : Int) := by omega
                  have x1 := hide (Up.same (unhide HF).r1 (fun k x1 _ => (unhide RE1).out k (.inr x1)))
                  have x2 := hide (Up.same (unhide HF).r2 (fun k x1 _ => (unhide RE1).out k (.inr (by omega))))
                  have x3 := hide ((unhide RE1).rg (n := n) (by omega) (unhide RGF))
                  go_wp2_with fail
                  refine (unhide IH mid q b _ _ (by omega) (by omega) (by omega) h3 (unhide R1) (unhide x3) ((unhide ASK).keep (unhide UL)) (unhide x1) (unhide x2)).mono ?_
                  rintro e wr2 ⟨rfl, f2, re2, up4, r2, u2⟩
                  have RE2 := hide re2
                  have U4 := hide up4
                  have R2 := hide r2
                  have UR := hide ((unhide UL).trans u2)
                  clear re2 up4 r2 u2
                  go_wp2
                  go_end0
                  exact ⟨rfl, f2, (((unhide RO).wide kas kqb).trans ((unhide RE1).wide (Nat.le_refl _) (by omega))).trans ((unhide RE2).wide (by omega) (Nat.le_refl _)), up_join (unhide HF).all (unhide RE1) (unhide U3) (unhide RE2) (unhide U4), unhide R2, unhide UR⟩
                · have c6' : ¬ (q : Int) < (b : Int) := by omega
                  go_wp2
                  go_end0
                  refine ⟨rfl, _, ((unhide RO).wide kas kqb).trans ((unhide RE1).wide (Nat.le_refl _) (by omega)), up_join (unhide HF).all (unhide RE1) (unhide U3) (Re.refl mid b _) ?_, unhide R1, unhide UL⟩
                  refine Up.same (f := fun k => f (ro s m q k)) ?_ (fun k x1 _ => (unhide RE1).out k (.inr x1))
                  have ee : q = b := by omega
                  have hf := (unhide HF).r1
                  rw [ee] at hf ⊢
                  exact hf
              · have c5' : ¬ (a : Int) < (s : Int) := by omega
                have RE1 := hide (Re.refl a mid (fun k => f (ro s m q k)))
                have U3 := hide (show Up c (fun k => f (ro s m q k)) a mid from by
                  have ee : s = a := by omega
                  have hf := (unhide HF).l2
                  rw [ee] at hf ⊢
                  exact hf)
                have R1 := hide (unhide RF)
                have UL := hide (unhide UF)
                by_cases c6 : q < b
                · have c6' : (q : Int) < (b : Int) := by omega
                  have x1 := hide (Up.same (unhide HF).r1 (fun k x1 _ => (unhide RE1).out k (.inr x1)))
                  have x2 := hide (Up.same (unhide HF).r2 (fun k x1 _ => (unhide RE1).out k (.inr (by omega))))
                  have x3 := hide ((unhide RE1).rg (n := n) (by omega) (unhide RGF))
                  go_wp2_with fail
                  refine (unhide IH mid q b _ _ (by omega) (by omega) (by omega) h3 (unhide R1) (unhide x3) ((unhide ASK).keep (unhide UL)) (unhide x1) (unhide x2)).mono ?_
                  rintro e wr2 ⟨rfl, f2, re2, up4, r2, u2⟩
                  have RE2 := hide re2
                  have U4 := hide up4
                  have R2 := hide r2
                  have UR := hide ((unhide UL).trans u2)
                  clear re2 up4 r2 u2
                  go_wp2
                  go_end0
                  exact ⟨rfl, f2, (((unhide RO).wide kas kqb).trans ((unhide RE1).wide (Nat.le_refl _) (by omega))).trans ((unhide RE2).wide (by omega) (Nat.le_refl _)), up_join (unhide HF).all (unhide RE1) (unhide U3) (unhide RE2) (unhide U4), unhide R2, unhide UR⟩
                · have c6' : ¬ (q : Int) < (b : Int) := by omega
                  go_wp2
                  go_end0
                  refine ⟨rfl, _, ((unhide RO).wide kas kqb).trans ((unhide RE1).wide (Nat.le_refl _) (by omega)), up_join (unhide HF).all (unhide RE1) (unhide U3) (Re.refl mid b _) ?_, unhide R1, unhide UL⟩
                  refine Up.same (f := fun k => f (ro s m q k)) ?_ (fun k x1 _ => (unhide RE1).out k (.inr x1))
                  have ee : q = b := by omega
                  have hf := (unhide HF).r1
                  rw [ee] at hf ⊢
                  exact hf
            · have c2' : ¬ (s : Int) < (mid : Int) := by omega
              have c3' : ¬ (m : Int) < (q : Int) := by omega
              have c5' : (a : Int) < (s : Int) := by omega
              have c6' : (q : Int) < (b : Int) := by omega
              have RF := hide ((unhide ROW).congr (f' := fun k => f (ro s m q k)) (fun k _ => by rw [ro_same (.inr (by omega))]))
              have UF := hide (unhide UU)
              have RE1 := hide (Re.refl a mid (fun k => f (ro s m q k)))
              have U3 := hide (show Up c (fun k => f (ro s m q k)) a mid from by
                have ee : s = mid := by omega
                have hf := (unhide HF).l1
                rw [ee] at hf ⊢
                exact hf)
              have R1 := hide (unhide RF)
              have UL := hide (unhide UF)
              have x1 := hide (Up.same (unhide HF).r1 (fun k x1 _ => (unhide RE1).out k (.inr x1)))
              have x2 := hide (Up.same (unhide HF).r2 (fun k x1 _ => (unhide RE1).out k (.inr (by omega))))
              have x3 := hide ((unhide RE1).rg (n := n) (by omega) (unhide RGF))
              go_wp2_with fail
              refine (unhide IH mid q b _ _ (by omega) (by omega) (by omega) h3 (unhide R1) (unhide x3) ((unhide ASK).keep (unhide UL)) (unhide x1) (unhide x2)).mono ?_
              rintro e wr2 ⟨rfl, f2, re2, up4, r2, u2⟩
              have RE2 := hide re2
              have U4 := hide up4
              have R2 := hide r2
              have UR := hide ((unhide UL).trans u2)
              clear re2 up4 r2 u2
              go_wp2
              go_end0
              exact ⟨rfl, f2, (((unhide RO).wide kas kqb).trans ((unhide RE1).wide (Nat.le_refl _) (by omega))).trans ((unhide RE2).wide (by omega) (Nat.le_refl _)), up_join (unhide HF).all (unhide RE1) (unhide U3) (unhide RE2) (unhide U4), unhide R2, unhide UR⟩
          · exfalso; omega
    · have hg' : ¬ (mid : Int) < (m : Int) := by omega
      have k5 : N ≤ a + b := by have := unhide HMID; omega
      clear hN hp
      go_enter Tryd.func91, Tryd.ntmps91
      go_wp2
      go_loopw [20, 21] (fun x y wr => ∃ (s r : Nat), x = .int .i64 s ∧ y = .int .i64 r ∧ Find c f N a m s r ∧ Row wr g n f ∧ Upd (fun k => k = g) w wr) (fun x y _ => (intOf y).toNat - (intOf x).toNat)
      case atStart => exact ⟨a, m, rfl, rfl, Find.start _ _ _ _ _ (by omega), unhide RR, Upd.refl _ w⟩
      case round =>
        obtain ⟨s, r, rfl, rfl, find, row, u⟩ := hrel
        have FIND := hide find
        have ROW := hide row
        have UU := hide u
        have b1 := find.b1
        have b2 := find.b2
        have b3 := find.b3
        have hN := unhide HN
        have hp := unhide HP
        have hlo : True := trivial
        by_cases hlt : s < r
        · have hlt' : (s : Int) < (r : Int) := by omega
          obtain ⟨h, hh⟩ : ∃ h, h = (s + r) / 2 := ⟨_, rfl⟩
          have hh' : ((s : Int) + r) / 2 = (h : Int) := by omega
          have hih : s ≤ h := by omega
          have hhj : h < r := by omega
          clear hh
          obtain ⟨q, hq⟩ : ∃ x, x = N - 1 - h := ⟨_, rfl⟩
          have eQ : (p : Int) - h = (q : Int) := by omega
          obtain ⟨d1, p1⟩ := row h (by omega)
          obtain ⟨d2, p2⟩ := row q (by omega)
          have g1 := unhide RG h (by omega)
          have g2 := unhide RG q (by omega)
          have AK := hide (fun z => (unhide ASK).2 (wr.drewN z) (u.drewN z) _ _ g2 g1)
          have v1 := (unhide ASK).1 _ g1
          have v2 := (unhide ASK).1 _ g2
          have hx : (h : Int) < n := by omega
          have hy : (q : Int) < n := by omega
          by_cases hc : c (f q) < c (f h)
          · have hc' : c (f q) - c (f h) < 0 := by omega
            have LN := hide (find.down (unhide UP1) (unhide UP2) (by omega) (by omega) (by omega) (by omega) hih hhj (by rw [← hq]; exact hc))
            clear row u find hq hN hp hlo
            go_wp2
            go_quiet ((go_at_fn K; exact Calls.quiet_of (unhide AK _)))
            rename_i nq
            have RQ := hide ((unhide ROW).drewN nq)
            have UQ := hide ((unhide UU).drewN nq)
            clear d1 d2 p1 p2 AK
            generalize wr.drewN nq = wq at *
            go_wp2
            go_roundw
            case rel => exact ⟨s, h, rfl, by go_num, unhide LN, unhide RQ, unhide UQ⟩
            case measure => simp [intOf]; omega
          · have hc' : decide (c (f q) - c (f h) < 0) = false := decide_eq_false (by omega)
            have LN := hide (find.up (unhide UP1) (unhide UP2) (by omega) (by omega) (by omega) (by omega) hih hhj (by rw [← hq]; omega))
            clear row u find hq hN hp hlo
            go_wp2
            go_quiet ((go_at_fn K; exact Calls.quiet_of (unhide AK _)))
            rename_i nq
            have RQ := hide ((unhide ROW).drewN nq)
            have UQ := hide ((unhide UU).drewN nq)
            clear d1 d2 p1 p2 AK
            generalize wr.drewN nq = wq at *
            go_wp2
            go_roundw
            case rel => exact ⟨h + 1, r, by go_num, rfl, unhide LN, unhide RQ, unhide UQ⟩
            case measure => simp [intOf]; omega
        · obtain rfl : s = r := by omega
          clear row u find hlt b1 b2 b3
          have hnl : ¬ (s : Int) < (s : Int) := by omega
          obtain ⟨q, hq⟩ : ∃ x, x = N - s := ⟨_, rfl⟩
          have f0 := unhide FIND
          have fb1 := f0.b1
          have fb3 := f0.b3
          have eE : (N : Int) - s = (q : Int) := by omega
          have kas : a ≤ s := by omega
          have ksm : s ≤ m := by omega
          have ksd : s ≤ mid := by omega
          have kqb : q ≤ b := by omega
          have kmq : m ≤ q := by omega
          have kdq : mid ≤ q := by omega
          have QE := hide (show q = mid + m - s by omega)
          have HF := hide (show Half c (fun k => f (ro s m q k)) a s mid q b from by
            rw [unhide QE]
            refine half_of (unhide UP1) (unhide UP2) kas ksm ksd (by omega) ?_
            have f1 := f0
            rw [hN] at f1
            exact f1.cut (by first | exact .inl ⟨by omega, by omega, rfl⟩ | exact .inr ⟨by omega, rfl, rfl⟩) (by omega) (by omega) h2 (by have := unhide HMID; omega))
          have RO := hide (ro_re s m q f ksm kmq)
          have SQ := hide hq
          have rgF : Rg (fun k => f (ro s m q k)) n len := (unhide RO).rg (by omega) (unhide RG)
          have RGF := hide rgF
          clear f0 fb1 fb3 hq rgF hN hp
          by_cases c1 : s < m
          · have c1' : (s : Int) < (m : Int) := by omega
            have c4' : (mid : Int) < (q : Int) := by omega
            by_cases c2 : s < mid
            · have c2' : (s : Int) < (mid : Int) := by omega
              have c3' : (m : Int) < (q : Int) := by omega
              go_wp2_with fail
              refine (rot32 g n cap s m q f _ _ (unhide ROW) c1 (by omega) (by omega) hn).mono ?_
              rintro e wt ⟨rfl, rt, ut⟩
              have RF := hide rt
              have UF := hide ((unhide UU).trans ut)
              clear rt ut
              by_cases c5 : a < s
              · have c5' : (a : Int) < (s : Int) := by omega
                go_wp2_with fail
                refine (unhide IH a s mid _ _ (by omega) (by omega) (by omega) (by omega) (unhide RF) (unhide RGF) ((unhide ASK).keep (unhide UF)) (unhide HF).l1 (unhide HF).l2).mono ?_
                rintro e wl ⟨rfl, f1, re1, up3, r1, u1⟩
                have RE1 := hide re1
                have U3 := hide up3
                have R1 := hide r1
                have UL := hide ((unhide UF).trans u1)
                clear re1 up3 r1 u1
                by_cases c6 : q < b
                · have c6' : (q : Int) < (b : Int) := by omega
                  have x1 := hide (Up.same (unhide HF).r1 (fun k x1 _ => (unhide RE1).out k (.inr x1)))
                  have x2 := hide (Up.same (unhide HF).r2 (fun k x1 _ => (unhide RE1).out k (.inr (by omega))))
                  have x3 := hide ((unhide RE1).rg (n := n) (by omega) (unhide RGF))
                  go_wp2_with fail
                  refine (unhide IH mid q b _ _ (by omega) (by omega) (by omega) h3 (unhide R1) (unhide x3) ((unhide ASK).keep (unhide UL)) (unhide x1) (unhide x2)).mono ?_
                  rintro e wr2 ⟨rfl, f2, re2, up4, r2, u2⟩
                  have RE2 := hide re2
                  have U4 := hide up4
                  have R2 := hide r2
                  have UR := hide ((unhide UL).trans u2)
                  clear re2 up4 r2 u2
                  go_wp2
                  go_end0
                  exact ⟨rfl, f2, (((unhide RO).wide kas kqb).trans ((unhide RE1).wide (Nat.le_refl _) (by omega))).trans ((unhide RE2).wide (by omega) (Nat.le_refl _)), up_join (unhide HF).all (unhide RE1) (unhide U3) (unhide RE2) (unhide U4), unhide R2, unhide UR⟩
                · have c6' : ¬ (q : Int) < (b : Int) := by omega
                  go_wp2
                  go_end0
                  refine ⟨rfl, _, ((unhide RO).wide kas kqb).trans ((unhide RE1).wide (Nat.le_refl _) (by omega)), up_join (unhide HF).all (unhide RE1) (unhide U3) (Re.refl mid b _) ?_, unhide R1, unhide UL⟩
                  refine Up.same (f := fun k => f (ro s m q k)) ?_ (fun k x1 _ => (unhide RE1).out k (.inr x1))
                  have ee : q = b := by omega
                  have hf := (unhide HF).r1
                  rw [ee] at hf ⊢
                  exact hf
              · have c5' : ¬ (a : Int) < (s : Int) := by omega
                have RE1 := hide (Re.refl a mid (fun k => f (ro s m q k)))
                have U3 := hide (show Up c (fun k => f (ro s m q k)) a mid from by
                  have ee : s = a := by omega
                  have hf := (unhide HF).l2
                  rw [ee] at hf ⊢
                  exact hf)
                have R1 := hide (unhide RF)
                have UL := hide (unhide UF)
                by_cases c6 : q < b
                · have c6' : (q : Int) < (b : Int) := by omega
                  have x1 := hide (Up.same (unhide HF).r1 (fun k x1 _ => (unhide RE1).out k (.inr x1)))
                  have x2 := hide (Up.same (unhide HF).r2 (fun k x1 _ => (unhide RE1).out k (.inr (by omega))))
                  have x3 := hide ((unhide RE1).rg (n := n) (by omega) (unhide RGF))
                  go_wp2_with fail
                  refine (unhide IH mid q b _ _ (by omega) (by omega) (by omega) h3 (unhide R1) (unhide x3) ((unhide ASK).keep (unhide UL)) (unhide x1) (unhide x2)).mono ?_
                  rintro e wr2 ⟨rfl, f2, re2, up4, r2, u2⟩
                  have RE2 := hide re2
                  have U4 := hide up4
                  have R2 := hide r2
                  have UR := hide ((unhide UL).trans u2)
                  clear re2 up4 r2 u2
                  go_wp2
                  go_end0
                  exact ⟨rfl, f2, (((unhide RO).wide kas kqb).trans ((unhide RE1).wide (Nat.le_refl _) (by omega))).trans ((unhide RE2).wide (by omega) (Nat.le_refl _)), up_join (unhide HF).all (unhide RE1) (unhide U3) (unhide RE2) (unhide U4), unhide R2, unhide UR⟩
                · have c6' : ¬ (q : Int) < (b : Int) := by omega
                  go_wp2
                  go_end0
                  refine ⟨rfl, _, ((unhide RO).wide kas kqb).trans ((unhide RE1).wide (Nat.le_refl _) (by omega)), up_join (unhide HF).all (unhide RE1) (unhide U3) (Re.refl mid b _) ?_, unhide R1, unhide UL⟩
                  refine Up.same (f := fun k => f (ro s m q k)) ?_ (fun k x1 _ => (unhide RE1).out k (.inr x1))
                  have ee : q = b := by omega
                  have hf := (unhide HF).r1
                  rw [ee] at hf ⊢
                  exact hf
            · have c2' : ¬ (s : Int) < (mid : Int) := by omega
              have c3' : ¬ (m : Int) < (q : Int) := by omega
              have c5' : (a : Int) < (s : Int) := by omega
              have c6' : (q : Int) < (b : Int) := by omega
              have RF := hide ((unhide ROW).congr (f' := fun k => f (ro s m q k)) (fun k _ => by rw [ro_same (.inr (by omega))]))
              have UF := hide (unhide UU)
              have RE1 := hide (Re.refl a mid (fun k => f (ro s m q k)))
              have U3 := hide (show Up c (fun k => f (ro s m q k)) a mid from by
                have ee : s = mid := by omega
                have hf := (unhide HF).l1
                rw [ee] at hf ⊢
                exact hf)
              have R1 := hide (unhide RF)
              have UL := hide (unhide UF)
              have x1 := hide (Up.same (unhide HF).r1 (fun k x1 _ => (unhide RE1).out k (.inr x1)))
              have x2 := hide (Up.same (unhide HF).r2 (fun k x1 _ => (unhide RE1).out k (.inr (by omega))))
              have x3 := hide ((unhide RE1).rg (n := n) (by omega) (unhide RGF))
              go_wp2_with fail
              refine (unhide IH mid q b _ _ (by omega) (by omega) (by omega) h3 (unhide R1) (unhide x3) ((unhide ASK).keep (unhide UL)) (unhide x1) (unhide x2)).mono ?_
              rintro e wr2 ⟨rfl, f2, re2, up4, r2, u2⟩
              have RE2 := hide re2
              have U4 := hide up4
              have R2 := hide r2
              have UR := hide ((unhide UL).trans u2)
              clear re2 up4 r2 u2
              go_wp2
              go_end0
              exact ⟨rfl, f2, (((unhide RO).wide kas kqb).trans ((unhide RE1).wide (Nat.le_refl _) (by omega))).trans ((unhide RE2).wide (by omega) (Nat.le_refl _)), up_join (unhide HF).all (unhide RE1) (unhide U3) (unhide RE2) (unhide U4), unhide R2, unhide UR⟩
          · have c1' : ¬ (s : Int) < (m : Int) := by omega
            have c4' : ¬ (mid : Int) < (q : Int) := by omega
            have c5' : (a : Int) < (s : Int) := by omega
            have RF := hide ((unhide ROW).congr (f' := fun k => f (ro s m q k)) (fun k _ => by rw [ro_same (.inl (by omega))]))
            have UF := hide (unhide UU)
            by_cases c2 : s < mid
            · have c2' : (s : Int) < (mid : Int) := by omega
              go_wp2_with fail
              refine (unhide IH a s mid _ _ (by omega) (by omega) (by omega) (by omega) (unhide RF) (unhide RGF) ((unhide ASK).keep (unhide UF)) (unhide HF).l1 (unhide HF).l2).mono ?_
              rintro e wl ⟨rfl, f1, re1, up3, r1, u1⟩
              have RE1 := hide re1
              have U3 := hide up3
              have R1 := hide r1
              have UL := hide ((unhide UF).trans u1)
              clear re1 up3 r1 u1
              go_wp2
              go_end0
              refine ⟨rfl, _, ((unhide RO).wide kas kqb).trans ((unhide RE1).wide (Nat.le_refl _) (by omega)), up_join (unhide HF).all (unhide RE1) (unhide U3) (Re.refl mid b _) ?_, unhide R1, unhide UL⟩
              refine Up.same (f := fun k => f (ro s m q k)) ?_ (fun k x1 _ => (unhide RE1).out k (.inr x1))
              have ee : q = mid := by omega
              have hf := (unhide HF).r2
              rw [ee] at hf ⊢
              exact hf
            · have c2' : ¬ (s : Int) < (mid : Int) := by omega
              have RE1 := hide (Re.refl a mid (fun k => f (ro s m q k)))
              have U3 := hide (show Up c (fun k => f (ro s m q k)) a mid from by
                have ee : s = mid := by omega
                have hf := (unhide HF).l1
                rw [ee] at hf ⊢
                exact hf)
              have R1 := hide (unhide RF)
              have UL := hide (unhide UF)
              go_wp2
              go_end0
              refine ⟨rfl, _, ((unhide RO).wide kas kqb).trans ((unhide RE1).wide (Nat.le_refl _) (by omega)), up_join (unhide HF).all (unhide RE1) (unhide U3) (Re.refl mid b _) ?_, unhide R1, unhide UL⟩
              refine Up.same (f := fun k => f (ro s m q k)) ?_ (fun k x1 _ => (unhide RE1).out k (.inr x1))
              have ee : q = mid := by omega
              have hf := (unhide HF).r2
              rw [ee] at hf ⊢
              exact hf
end Go.Proofs.YtaidboopcoaeeaaDoor.ZSym

namespace Go.Proofs.YtaidboopcoaeeaaDoor.ZStb
open Go.ChangeShapes Go.WideShapes Go.ChangeAt Go.RowKit Go.Proofs.YtaidboopcoaeeaaDoor.Core Go.Proofs.YtaidboopcoaeeaaDoor.Gnd Go.Proofs.YtaidboopcoaeeaaDoor.ZSrt Go.Proofs.YtaidboopcoaeeaaDoor.ZIns Go.Proofs.YtaidboopcoaeeaaDoor.ZSym

/-- Each run of z places that begins from lo to hi rises; the last one may be short. -/
def Runs (c : Nat → Int) (f : Nat → Nat) (n z lo hi : Nat) : Prop := ∀ x, z ∣ x → lo ≤ x → x < hi → Up c f x (min (x + z) n)
theorem up_cut {c : Nat → Int} {f : Nat → Nat} {a b a' b' : Nat} (h : Up c f a b) (ha : a ≤ a') (hb : b' ≤ b) : Up c f a' b' := fun x y h1 h2 h3 => h x y (by omega) h2 (by omega)
theorem gap {d x y : Nat} (hx : d ∣ x) (hy : d ∣ y) (h : x < y) : x + d ≤ y := by
  obtain ⟨i, rfl⟩ := hx
  obtain ⟨j, rfl⟩ := hy
  have : i < j := by
    rcases Nat.lt_or_ge i j with h1 | h1
    · exact h1
    · have := Nat.mul_le_mul_left d h1
      omega
  have := Nat.mul_le_mul_left d this
  rw [Nat.mul_succ] at this
  exact this
theorem Runs.more {c : Nat → Int} {f f' : Nat → Nat} {n z a e : Nat} (h : Runs c f n z 0 a) (hz : z ∣ a) (ea : e ≤ a + z) (re : Re a e f f') (up : Up c f' a e) (hn : min (a + z) n ≤ e) : Runs c f' n z 0 (a + z) := fun x hx _ h2 => by
  by_cases e1 : x < a
  · have := gap hx hz e1
    exact Up.same (h x hx (Nat.zero_le _) e1) (fun k _ k2 => re.out k (.inl (by omega)))
  · have : x = a := by
      by_cases e2 : a < x
      · have := gap hz hx e2; omega
      · omega
    subst this
    exact fun i j h3 h4 h5 => up i j h3 h4 (by omega)
theorem Runs.rest {c : Nat → Int} {f f' : Nat → Nat} {n z a e hi : Nat} (h : Runs c f n z a hi) (re : Re a e f f') (hae : a ≤ e) : Runs c f' n z e hi := fun x hx h1 h2 =>
  Up.same (h x hx (by omega) h2) (fun k k1 _ => re.out k (.inr (by omega)))
set_option maxHeartbeats 4000000 in
theorem stb27 (K : Nat) (eg : ∀ args w, (callFunc K args).run Tryd.prog w = .ok (.enter K args) w) (cb : Array Value) (g n cap len : Nat) (f : Nat → Nat) (c : Nat → Int) (w : World) (hr : Row w g n f) (rg : Rg f n len) (ask : Asks K cb w g len c) (hn : n ≤ 100000) :
    Calls Tryd.prog 86 #[.slice (some ⟨g, 0, none⟩) n cap, .int .i64 n, .func (.func K) #[] cb] w fun e w' => e = .returned (.tuple #[]) ∧ ∃ f', Re 0 n f f' ∧ Up c f' 0 n ∧ Row w' g n f' ∧ Upd (fun k => k = g) w w' := by
  have RR := hide hr
  have RG := hide rg
  have ASK := hide ask
  clear hr rg ask
  go_enter Tryd.func86, Tryd.ntmps86
  go_wp2
  go_loopw [7, 8] (fun x y wr => ∃ (a : Nat) (f1 : Nat → Nat), x = .int .i64 a ∧ y = .int .i64 (a + 20 : Nat) ∧ 20 ∣ a ∧ a ≤ n ∧ Re 0 n f f1 ∧ Runs c f1 n 20 0 a ∧ Row wr g n f1 ∧ Upd (fun k => k = g) w wr) (fun x _ _ => n - (intOf x).toNat)
  case atStart => exact ⟨0, f, rfl, rfl, ⟨0, rfl⟩, Nat.zero_le _, Re.refl _ _ _, fun x _ _ h => by omega, unhide RR, Upd.refl _ w⟩
  case round =>
    obtain ⟨a, f1, rfl, rfl, hd, han, re, runs, row, u⟩ := hrel
    have RE := hide re
    have RU := hide runs
    have ROW := hide row
    have UU := hide u
    have DV := hide hd
    have RGF := hide (re.rg (Nat.le_refl _) (unhide RG))
    clear re runs row u hd
    by_cases hlt : a + 20 ≤ n
    · have hlt' : (a : Int) + 20 ≤ (n : Int) := by omega
      go_wp2_with fail
      refine (ins29 K eg cb g n cap a (a + 20) len f1 c _ (unhide ROW) (unhide RGF) ((unhide ASK).keep (unhide UU)) (by omega) hlt hn).mono ?_
      rintro e w1 ⟨rfl, f2, re2, up2, r2, u2⟩
      have RE2 := hide ((unhide RE).trans (re2.wide (Nat.zero_le _) hlt))
      have RU2 := hide ((unhide RU).more (unhide DV) (Nat.le_refl _) re2 up2 (Nat.min_le_left _ _))
      have R2 := hide r2
      have U2 := hide ((unhide UU).trans u2)
      clear re2 up2 r2 u2
      go_wp2
      go_roundw
      case rel => exact ⟨a + 20, f2, by go_num, by go_num, Nat.dvd_add (unhide DV) ⟨1, rfl⟩, hlt, unhide RE2, unhide RU2, unhide R2, unhide U2⟩
      case measure => simp [intOf]; omega
    · have hlt' : ¬ (a : Int) + 20 ≤ (n : Int) := by omega
      go_wp2_with fail
      refine (ins29 K eg cb g n cap a n len f1 c _ (unhide ROW) (unhide RGF) ((unhide ASK).keep (unhide UU)) han (Nat.le_refl _) hn).mono ?_
      rintro e w1 ⟨rfl, f2, re2, up2, r2, u2⟩
      have RE2 := hide ((unhide RE).trans (re2.wide (Nat.zero_le _) (Nat.le_refl _)))
      have RU2 := hide (show Runs c f2 n 20 0 n from fun x x1 x2 x3 => ((unhide RU).more (unhide DV) (by omega) re2 up2 (Nat.min_le_right _ _)) x x1 x2 (by omega))
      have R2 := hide r2
      have U2 := hide ((unhide UU).trans u2)
      clear re2 up2 r2 u2 RE RU ROW UU DV RGF
      go_wp2
      go_loopw [6] (fun x wi => ∃ (z : Nat) (f3 : Nat → Nat), x = .int .i64 z ∧ 20 ≤ z ∧ z ≤ 2 * n + 20 ∧ Re 0 n f f3 ∧ Runs c f3 n z 0 n ∧ Row wi g n f3 ∧ Upd (fun k => k = g) w wi) (fun x _ => n - (intOf x).toNat)
      case atStart => exact ⟨20, f2, rfl, Nat.le_refl _, by omega, unhide RE2, unhide RU2, unhide R2, unhide U2⟩
      case round =>
        obtain ⟨z, f3, rfl, hz, hzb, re3, ru3, r3, u3⟩ := hrel
        have RE3 := hide re3
        have RU3 := hide ru3
        have R3 := hide r3
        have U3 := hide u3
        clear re3 ru3 r3 u3 RE2 RU2 R2 U2
        by_cases hzn : z < n
        · have hzn' : (z : Int) < (n : Int) := by omega
          go_wp2
          go_loopw [7, 8] (fun x y wj => ∃ (a : Nat) (f4 : Nat → Nat), x = .int .i64 a ∧ y = .int .i64 (a + 2 * z : Nat) ∧ 2 * z ∣ a ∧ a ≤ n ∧ Re 0 n f f4 ∧ Runs c f4 n (2 * z) 0 a ∧ Runs c f4 n z a n ∧ Row wj g n f4 ∧ Upd (fun k => k = g) w wj) (fun x _ _ => n - (intOf x).toNat)
          case atStart => exact ⟨0, f3, rfl, by go_num, ⟨0, rfl⟩, Nat.zero_le _, unhide RE3, fun x _ _ h => by omega, unhide RU3, unhide R3, unhide U3⟩
          case round =>
            clear RE3 RU3 R3 U3
            obtain ⟨a, f4, rfl, rfl, hd, han, re, runs, rest, row, u⟩ := hrel
            have RE := hide re
            have RU := hide runs
            have RS := hide rest
            have ROW := hide row
            have UU := hide u
            have DV := hide hd
            have DZ := hide (show z ∣ a from Nat.dvd_trans ⟨2, by omega⟩ hd)
            have RGF := hide (re.rg (Nat.le_refl _) (unhide RG))
            clear re runs rest row u hd
            by_cases hlt : a + 2 * z ≤ n
            · have hlt' : (a : Int) + 2 * z ≤ (n : Int) := by omega
              go_wp2_with fail
              refine (sym30 K eg cb g n cap len c hn n a (a + z) (a + 2 * z) f4 _ (by omega) (by omega) (by omega) hlt (unhide ROW) (unhide RGF) ((unhide ASK).keep (unhide UU)) ?_ ?_).mono ?_
              · exact up_cut (unhide RS a (unhide DZ) (Nat.le_refl _) (by omega)) (Nat.le_refl _) (by omega)
              · exact up_cut (unhide RS (a + z) (Nat.dvd_add (unhide DZ) ⟨1, by omega⟩) (by omega) (by omega)) (Nat.le_refl _) (by omega)
              rintro e w2 ⟨rfl, f5, re5, up5, r5, u5⟩
              have RE5 := hide ((unhide RE).trans (re5.wide (Nat.zero_le _) hlt))
              have RU5 := hide ((unhide RU).more (unhide DV) (Nat.le_refl _) re5 up5 (Nat.min_le_left _ _))
              have RS5 := hide ((unhide RS).rest re5 (by omega))
              have R5 := hide r5
              have U5 := hide ((unhide UU).trans u5)
              clear re5 up5 r5 u5
              go_wp2
              go_roundw
              case rel => exact ⟨a + 2 * z, f5, by go_num, by go_num, Nat.dvd_add (unhide DV) ⟨1, by omega⟩, hlt, unhide RE5, unhide RU5, unhide RS5, unhide R5, unhide U5⟩
              case measure => simp [intOf]; omega
            · have hlt' : ¬ (a : Int) + 2 * z ≤ (n : Int) := by omega
              by_cases hm : a + z < n
              · have hm' : (a : Int) + z < (n : Int) := by omega
                go_wp2_with fail
                refine (sym30 K eg cb g n cap len c hn n a (a + z) n f4 _ (by omega) (by omega) hm (Nat.le_refl _) (unhide ROW) (unhide RGF) ((unhide ASK).keep (unhide UU)) ?_ ?_).mono ?_
                · exact up_cut (unhide RS a (unhide DZ) (Nat.le_refl _) (by omega)) (Nat.le_refl _) (by omega)
                · exact up_cut (unhide RS (a + z) (Nat.dvd_add (unhide DZ) ⟨1, by omega⟩) (by omega) (by omega)) (Nat.le_refl _) (by omega)
                rintro e w2 ⟨rfl, f5, re5, up5, r5, u5⟩
                have RE5 := hide ((unhide RE).trans (re5.wide (Nat.zero_le _) (Nat.le_refl _)))
                have RU5 := hide (show Runs c f5 n (2 * z) 0 n from fun x x1 x2 x3 => ((unhide RU).more (unhide DV) (by omega) re5 up5 (Nat.min_le_right _ _)) x x1 x2 (by omega))
                have R5 := hide r5
                have U5 := hide ((unhide UU).trans u5)
                clear re5 up5 r5 u5
                go_wp2
                go_roundw
                case rel => exact ⟨2 * z, f5, by go_num, by omega, by omega, unhide RE5, unhide RU5, unhide R5, unhide U5⟩
                case measure => simp [intOf]; omega
              · have hm' : ¬ (a : Int) + z < (n : Int) := by omega
                have RU5 := hide (show Runs c f4 n (2 * z) 0 n from fun x x1 x2 x3 => by
                  by_cases e1 : x < a
                  · exact unhide RU x x1 x2 e1
                  · have : x = a := by
                      by_cases e2 : a < x
                      · have := gap (unhide DV) x1 e2; omega
                      · omega
                    subst this
                    exact up_cut (unhide RS x (unhide DZ) (Nat.le_refl _) x3) (Nat.le_refl _) (by omega))
                go_wp2
                go_roundw
                case rel => exact ⟨2 * z, f4, by go_num, by omega, by omega, unhide RE, unhide RU5, unhide ROW, unhide UU⟩
                case measure => simp [intOf]; omega
        · have hzn' : ¬ (z : Int) < (n : Int) := by omega
          go_wp2
          go_end0
          refine ⟨rfl, f3, unhide RE3, ?_, unhide R3, unhide U3⟩
          by_cases h0 : 0 < n
          · exact up_cut (unhide RU3 0 ⟨0, rfl⟩ (Nat.le_refl _) h0) (Nat.le_refl _) (by omega)
          · exact fun i j _ _ _ => by omega
theorem sta21 (K : Nat) (eg : ∀ args w, (callFunc K args).run Tryd.prog w = .ok (.enter K args) w) (cb : Array Value) (g n cap len : Nat) (f : Nat → Nat) (c : Nat → Int) (w : World) (hr : Row w g n f) (rg : Rg f n len) (ask : Asks K cb w g len c) (hn : n ≤ 100000) :
    Calls Tryd.prog 78 #[.slice (some ⟨g, 0, none⟩) n cap, .func (.func K) #[] cb] w fun e w' => e = .returned (.tuple #[]) ∧ ∃ f', Re 0 n f f' ∧ Up c f' 0 n ∧ Row w' g n f' ∧ Upd (fun k => k = g) w w' := by
  have H := hide (stb27 K eg cb g n cap len f c w hr rg ask hn)
  clear hr rg ask
  go_enter Tryd.func78, Tryd.ntmps78
  go_wp2_with fail
  refine (unhide H).mono ?_
  rintro e w' ⟨rfl, h⟩
  have HH := hide h
  clear h
  go_wp2
  go_end0
  exact ⟨rfl, unhide HH⟩
end Go.Proofs.YtaidboopcoaeeaaDoor.ZStb

namespace Go.Proofs.YtaidboopcoaeeaaDoor.ZRis
open Go.ChangeShapes Go.WideShapes Go.ChangeAt Go.RowKit Go.Proofs.YtaidboopcoaeeaaDoor.Core Go.Proofs.YtaidboopcoaeeaaDoor.Gnd Go.Proofs.YtaidboopcoaeeaaDoor.ZSrt Go.Proofs.YtaidboopcoaeeaaDoor.ZStb

/-- Counts that may be. -/
def Okc (c : Nat → Int) (n : Nat) : Prop := ∀ k, k < n → 0 ≤ c k ∧ c k ≤ 4294967296
def okB (c : Nat → Int) : Nat → Bool
  | 0 => true
  | n + 1 => okB c n && decide (0 ≤ c n ∧ c n ≤ 4294967296)
theorem okB_iff (c : Nat → Int) : ∀ n, okB c n = true ↔ Okc c n
  | 0 => ⟨fun _ k hk => by omega, fun _ => rfl⟩
  | n + 1 => by
    rw [okB, Bool.and_eq_true, okB_iff c n, decide_eq_true_iff]
    constructor
    · rintro ⟨h1, h2⟩ k hk
      by_cases e : k = n
      · subst e; exact h2
      · exact h1 k (by omega)
    · intro h
      exact ⟨fun k hk => h k (by omega), h n (by omega)⟩
theorem bad19 (x : Int) (w : World) : Calls Tryd.prog 77 #[.int .i64 x] w fun e w' => e = .returned (.bool (decide (x < 0 ∨ 4294967296 < x))) ∧ w' = w := by
  by_cases h1 : x < 0
  · have hb : decide (x < 0 ∨ 4294967296 < x) = true := by simp [h1]
    rw [hb]
    clear hb
    go_enter Tryd.func77, Tryd.ntmps77
    go_wp2
    go_ret
    exact ⟨rfl, rfl⟩
  · by_cases h2 : 4294967296 < x
    · have hb : decide (x < 0 ∨ 4294967296 < x) = true := by simp [h2]
      rw [hb]
      clear hb
      go_enter Tryd.func77, Tryd.ntmps77
      go_wp2
      go_ret
      exact ⟨rfl, rfl⟩
    · have hb : decide (x < 0 ∨ 4294967296 < x) = false := by simp; omega
      rw [hb]
      clear hb
      go_enter Tryd.func77, Tryd.ntmps77
      go_wp2
      go_ret
      exact ⟨rfl, rfl⟩
theorem idx22 (v : Value) (len : Nat) (c : Nat → Int) (hl : len ≤ 100000) (w : World) (src : Ints .i64 w v len c) :
    Calls Tryd.prog 44 #[v, .func (.func 77) #[] #[]] w fun e w' => ∃ r : Int, e = .returned (.int .i64 r) ∧ decide (0 ≤ r) = !okB c len ∧ w' = w := by
  obtain ⟨a, cap, rfl, hs⟩ := src
  have SRC := hide hs
  clear hs
  go_enter Tryd.func44, Tryd.ntmps44
  go_wp2
  go_loopw [8] (fun i wr => ∃ k : Nat, k ≤ len ∧ i = .int .i64 k ∧ Okc c k ∧ wr = w) (fun i _ => len - (intOf i).toNat)
  case atStart => exact ⟨0, Nat.zero_le _, rfl, fun j hj => by omega, rfl⟩
  case round =>
    obtain ⟨k, hk, rfl, good, rfl⟩ := hrel
    have GOOD := hide good
    clear good
    by_cases hlt : k < len
    · have hlt' : (k : Int) < (len : Int) := by omega
      obtain ⟨b, off, rfl, hcell⟩ := unhide SRC k hlt
      by_cases hx : c k < 0 ∨ 4294967296 < c k
      · have hb : decide (c k < 0 ∨ 4294967296 < c k) = true := by simp [hx]
        have HX := hide hx
        clear hx
        go_wp2_with (go_at_call 77; refine (bad19 (c k) _).mono ?_; rw [hb]; rintro e w1 ⟨rfl, rfl⟩)
        go_ret
        refine ⟨_, rfl, ?_, rfl⟩
        have h1 : okB c len = false := by
          cases h2 : okB c len
          · rfl
          · have := (okB_iff c len).1 h2 k hlt
            have := unhide HX
            omega
        rw [h1]
        exact decide_eq_true (by omega)
      · have hb : decide (c k < 0 ∨ 4294967296 < c k) = false := by simp [hx]
        have HX := hide hx
        clear hx
        go_wp2_with (go_at_call 77; refine (bad19 (c k) _).mono ?_; rw [hb]; rintro e w1 ⟨rfl, rfl⟩)
        go_roundw
        case rel =>
          refine ⟨k + 1, by omega, by go_num, fun j hj => ?_, by first | rfl | trivial⟩
          by_cases e : j = k
          · subst e
            have := unhide HX
            omega
          · exact unhide GOOD j (by omega)
        case measure => simp [intOf]; omega
    · obtain rfl : k = len := by omega
      go_wp2
      go_ret
      refine ⟨_, rfl, ?_, rfl⟩
      rw [(okB_iff c k).2 (unhide GOOD)]
      rfl
theorem con18 (v : Value) (len : Nat) (c : Nat → Int) (hl : len ≤ 100000) (w : World) (src : Ints .i64 w v len c) :
    Calls Tryd.prog 32 #[v, .func (.func 77) #[] #[]] w fun e w' => e = .returned (.bool (!okB c len)) ∧ w' = w := by
  have SRC := hide src
  clear src
  go_enter Tryd.func32, Tryd.ntmps32
  go_wp2_with (go_at_call 44; refine (idx22 v len c hl _ (unhide SRC)).mono ?_; rintro e w1 ⟨r, rfl, hr, rfl⟩; have HR := hide hr; clear hr)
  go_ret
  exact ⟨by rw [← unhide HR]; rfl, rfl⟩
theorem good13 (v : Value) (len : Nat) (c : Nat → Int) (hl : len ≤ 4096) (w : World) (src : Ints .i64 w v len c) :
    Calls Tryd.prog 68 #[v] w fun e w' => e = .returned (.bool (okB c len)) ∧ w' = w := by
  have SRC := hide src
  obtain ⟨a, cap, rfl, _⟩ := src
  have hl' : (len : Int) ≤ 4096 := by omega
  go_enter Tryd.func68, Tryd.ntmps68
  go_wp2_with (go_at_call 32; refine (con18 _ len c (by omega) _ (unhide SRC)).mono ?_; rintro e w1 ⟨rfl, rfl⟩)
  go_ret
  exact ⟨by simp, rfl⟩
/-- The function that compares two symbols by their counts. -/
theorem cmp22 (B : Nat) (v : Value) (len : Nat) (c : Nat → Int) (x y : Nat) (W : World) (hb : W.cell? ⟨B, 0, none⟩ = some v) (src : Ints .i64 W v len c) (ok : Okc c len) (hx : x < len) (hy : y < len) :
    Calls Tryd.prog 79 (#[.int .i64 x, .int .i64 y] ++ #[.pointer (some ⟨B, 0, none⟩)]) W fun e W' => e = .returned (.int .i64 (c x - c y)) ∧ ∃ q, W' = W.drewN q := by
  obtain ⟨a, cap, rfl, hs⟩ := src
  obtain ⟨b, off, rfl, c1⟩ := hs x hx
  obtain ⟨b2, off2, e2, c2⟩ := hs y hy
  cases e2
  have o1 := ok x hx
  have o2 := ok y hy
  have hx' : (x : Int) < (len : Int) := by omega
  have hy' : (y : Int) < (len : Int) := by omega
  clear hs ok
  go_enter Tryd.func79, Tryd.ntmps79
  go_wp2
  go_quiet ((fail))
  go_wp2
  go_ret
  exact ⟨rfl, _, rfl⟩
/-- The places of counts above 0, in their order. -/
def pos (c : Nat → Int) : Nat → List Nat
  | 0 => []
  | n + 1 => if 0 < c n then pos c n ++ [n] else pos c n
theorem pos_len (c : Nat → Int) : ∀ n, (pos c n).length ≤ n
  | 0 => Nat.le_refl _
  | n + 1 => by
    have := pos_len c n
    unfold pos
    split
    · rw [List.length_append]; simp; omega
    · omega
theorem pos_mem (c : Nat → Int) (x : Nat) : ∀ n, x ∈ pos c n ↔ x < n ∧ 0 < c x
  | 0 => by simp [pos]
  | n + 1 => by
    unfold pos
    have := pos_mem c x n
    split
    · next h =>
      rw [List.mem_append, this, List.mem_singleton]
      constructor
      · rintro (⟨h1, h2⟩ | rfl)
        · exact ⟨by omega, h2⟩
        · exact ⟨by omega, h⟩
      · rintro ⟨h1, h2⟩
        by_cases e : x = n
        · exact .inr e
        · exact .inl ⟨by omega, h2⟩
    · next h =>
      rw [this]
      constructor
      · rintro ⟨h1, h2⟩
        exact ⟨by omega, h2⟩
      · rintro ⟨h1, h2⟩
        by_cases e : x = n
        · subst e; exact absurd h2 h
        · exact ⟨by omega, h2⟩
def ncells (l : List Nat) : List Value := l.map fun (k : Nat) => Value.int .i64 (k : Int)
theorem info3 : (Tryd.prog.info? 3).map (fun i => (i.zero, i.size, i.bytes)) = some (some (.int .i64 0), 1, 8) := by kernel_rfl
theorem ins29_nil (a : Nat) (cf : Value) (w : World) (ha : a ≤ 100) : Calls Tryd.prog 90 #[.slice none 0 0, .int .i64 a, .int .i64 0, cf] w fun e w' => e = .returned (.tuple #[]) ∧ w' = w := by
  have h1 : ¬ (a : Int) + 1 < 0 := by omega
  go_enter Tryd.func90, Tryd.ntmps90
  go_wp2
  refine wp_loop_rounds 1 ?_
  rw [rounds_succ]
  go_wp2
  go_end0
  exact ⟨rfl, rfl⟩
theorem stb27_nil (cf : Value) (w : World) : Calls Tryd.prog 86 #[.slice none 0 0, .int .i64 0, cf] w fun e w' => e = .returned (.tuple #[]) ∧ w' = w := by
  go_enter Tryd.func86, Tryd.ntmps86
  go_wp2
  refine wp_loop_rounds 1 ?_
  rw [rounds_succ]
  go_wp2_with (go_at_call 90; refine (ins29_nil 0 cf _ (by omega)).mono ?_; rintro e w1 ⟨rfl, rfl⟩)
  refine wp_loop_rounds 1 ?_
  rw [rounds_succ]
  go_wp2
  go_end0
  exact ⟨rfl, rfl⟩
theorem sta21_nil (cf : Value) (w : World) : Calls Tryd.prog 78 #[.slice none 0 0, cf] w fun e w' => e = .returned (.tuple #[]) ∧ w' = w := by
  go_enter Tryd.func78, Tryd.ntmps78
  go_wp2_with (go_at_call 86; refine (stb27_nil cf _).mono ?_; rintro e w1 ⟨rfl, rfl⟩)
  go_end0
  exact ⟨rfl, rfl⟩
end Go.Proofs.YtaidboopcoaeeaaDoor.ZRis

namespace Go.Proofs.YtaidboopcoaeeaaDoor.ZRis2
open Go.ChangeShapes Go.WideShapes Go.ChangeAt Go.RowKit Go.Proofs.YtaidboopcoaeeaaDoor.Core Go.Proofs.YtaidboopcoaeeaaDoor.Gnd Go.Proofs.YtaidboopcoaeeaaDoor.ZSrt Go.Proofs.YtaidboopcoaeeaaDoor.ZStb Go.Proofs.YtaidboopcoaeeaaDoor.ZRis

/-- What is gathered. -/
structure Gat (w wr : World) (v s : Value) (l : List Nat) : Prop where
  own : wr.ownsRow (w.heap.size + 1) 3 1 s l.length (ncells l)
  nn : l = [] → s = .slice none 0 0
  box : Box wr w.heap.size 22 #[v]
  bel : Below w.heap.size w wr
theorem Gat.app {w wr w1 : World} {v s s1 : Value} {l : List Nat} {k : Nat} {o : Obj} (h : Gat w wr v s l) (own : w1.ownsRow (w.heap.size + 1) 3 1 s1 (l.length + 1) (ncells l ++ [.int .i64 (k : Int)])) (gr : (wr.alloc o).grownBy w1 s.ownBlock) : Gat w w1 v s1 (l ++ [k]) := by
  have hlt := h.own.lt
  refine ⟨?_, fun e => by simp at e, ?_, ?_⟩
  · rw [List.length_append]
    have : ncells (l ++ [k]) = ncells l ++ [.int .i64 (k : Int)] := by simp [ncells]
    rw [this]
    exact own
  · have hb := h.box.alloc o
    refine (gr.block w.heap.size hb.lt (fun e => ?_)).trans hb
    have := (hlt _ e.symm).1
    omega
  · refine (h.bel.alloc h.bel.size o).grown gr ?_ (fun k e => ?_)
    · have := h.bel.size
      simp; omega
    · have := (hlt k e).1
      omega
theorem ncells_at (l : List Nat) (i : Nat) (h : i < l.length) : (ncells l)[i]? = some (.int .i64 ((l.getD i 0 : Nat) : Int)) := by
  simp [ncells, h]
theorem ncells_one (k : Nat) : ∀ u ∈ [Value.int .i64 (k : Int)], u.oneCell' = true := by
  intro u hu; simp at hu; subst hu; rfl
theorem Gat.row {w wr : World} {v s : Value} {l : List Nat} (h : Gat w wr v s l) (h0 : 0 < l.length) : ∃ g cap, s = .slice (some ⟨g, 0, none⟩) l.length cap ∧ l.length ≤ cap ∧ w.heap.size < g ∧ Row wr g l.length (fun i => l.getD i 0) := by
  have ho := h.own
  have hl := ho.lt
  rcases ho.2 with ⟨_, e⟩ | ⟨g, cap, cur, rfl, b1, b2, b3, b4⟩
  · omega
  · exact ⟨g, cap, rfl, b3, b1, fun i hi => ⟨(ho.cellAt i (by omega)).trans (ncells_at l i hi), ho.frozenAt i⟩⟩
/-- What size.rising answers. -/
structure Rose (w w' : World) (u : Value) (c : Nat → Int) (len : Nat) (s : Nat → Nat) : Prop where
  re : Re 0 (pos c len).length (fun i => (pos c len).getD i 0) s
  up : Up c s 0 (pos c len).length
  ints : Ints .i64 w' u (pos c len).length (fun i => (s i : Int))
  room : ∃ a cap, u = .slice a (pos c len).length cap ∧ (pos c len).length ≤ cap
  bel : Below w.heap.size w w'
theorem pos_lt {c : Nat → Int} {len : Nat} : Rg (fun i => (pos c len).getD i 0) (pos c len).length len := fun i hi => by
  have h1 : (pos c len)[i] ∈ pos c len := List.getElem_mem hi
  have h2 := ((pos_mem c _ len).1 h1).1
  show (pos c len).getD i 0 < len
  rw [List.getD_eq_getElem?_getD, List.getElem?_eq_getElem hi]
  exact h2
set_option maxHeartbeats 2000000 in
theorem ris14 (v : Value) (len : Nat) (c : Nat → Int) (hl : len ≤ 4096) (w : World) (src : Ints .i64 w v len c) (ok : Okc c len) :
    Calls Tryd.prog 69 #[v] w fun e w' => ∃ u s, e = .returned u ∧ Rose w w' u c len s := by
  have SRC := hide src
  obtain ⟨a, cap, rfl, hs⟩ := src
  have OK := hide ok
  have eg : ∀ args w, (callFunc 79 args).run Tryd.prog w = .ok (.enter 79 args) w := enters_of Tryd.func79 (by kernel_rfl) rfl
  obtain ⟨i0, hi0, hz0, hz1, hz2⟩ := info_parts info3
  clear hs ok
  go_enter Tryd.func69, Tryd.ntmps69
  go_wp2
  go_loopw [3, 8] (fun s i wr => ∃ k : Nat, k ≤ len ∧ i = .int .i64 k ∧ Gat w wr (.slice a len cap) s (pos c k)) (fun _ i _ => len - (intOf i).toNat)
  case atStart => exact ⟨0, Nat.zero_le _, rfl, ⟨World.ownsRow_nil _ _ _ _, fun _ => rfl, Box.made w 22 _, (Below.refl _ w).alloc (Nat.le_refl _) _⟩⟩
  case round =>
    obtain ⟨k, hk, rfl, gat⟩ := hrel
    have GAT := hide gat
    have pl := pos_len c k
    by_cases hlt : k < len
    · have hlt' : (k : Int) < (len : Int) := by omega
      obtain ⟨a', cap', e', hs'⟩ := (unhide SRC).keep gat.bel
      cases e'
      obtain ⟨b, off, rfl, hcell⟩ := hs' k hlt
      clear gat hs'
      by_cases hp : 0 < c k
      · have E1 := hide (show pos c (k + 1) = pos c k ++ [k] from by show (if 0 < c k then _ else _) = _; rw [if_pos hp])
        go_wp2_with (first | (at_builtin; refine wpList_append_own _ rfl (.tmp 15) (.tmp 17) 22 rfl (w.heap.size + 1) 3 i0 (.int .i64 0) 1 8 Tryd.underlying22 hi0 hz0 hz1 hz2 rfl (by decide) _ (pos c k).length (ncells (pos c k)) rfl ((unhide GAT).own.alloc _) ⟨wr.heap.size, 0, none⟩ 1 1 [.int .i64 (k : Int)] rfl rfl (cell_one_new _ _ _) (ncells_one k) (by unfold maxLen; omega) (by omega) (by have := (unhide GAT).box.lt; simp; omega) ?_; intro v1 w1 own1 gr1 _; have GA1 := hide ((unhide GAT).app own1 gr1); clear own1 gr1) | fail)
        go_roundw
        case rel => exact ⟨k + 1, by omega, by go_num, by rw [unhide E1]; exact unhide GA1⟩
        case measure => simp [intOf]; omega
      · have E1 := hide (show pos c (k + 1) = pos c k from by show (if 0 < c k then _ else _) = _; rw [if_neg hp])
        go_wp2
        go_roundw
        case rel => exact ⟨k + 1, by omega, by go_num, by rw [unhide E1]; exact unhide GAT⟩
        case measure => simp [intOf]; omega
    · obtain rfl : k = len := by omega
      have hnl : ¬ (k : Int) < (k : Int) := by omega
      by_cases h0 : 0 < (pos c k).length
      · obtain ⟨g, cap2, rfl, room, hg, row⟩ := gat.row h0
        have hbel := gat.bel
        have hbox := gat.box
        have AS := hide (show Asks 79 #[.pointer (some ⟨w.heap.size, 0, none⟩)] wr g k c from ⟨fun x hx => unhide OK x hx, fun W u x y hx hy =>
          cmp22 w.heap.size _ k c x y W ((u.cell (p := ⟨w.heap.size, 0, none⟩) hbox.lt (fun e => by simp at e; omega)).trans (hbox.cell 0)) ((unhide SRC).keep (hbel.trans (u.below w.heap.size hbel.size (fun j e => by omega)))) (unhide OK) hx hy⟩)
        have ROW := hide row
        have BEL := hide hbel
        have RM := hide room
        clear gat row hbel hbox room
        go_wp2_with fail
        refine (sta21 79 eg _ g _ cap2 k _ c _ (unhide ROW) pos_lt (unhide AS) (by omega)).mono ?_
        rintro e w1 ⟨rfl, s, re, up, row1, u1⟩
        have RO := hide (show Rose w w1 (.slice (some ⟨g, 0, none⟩) (pos c k).length cap2) c k s from ⟨re, up, ⟨_, cap2, rfl, fun i hi => ⟨g, 0, rfl, by rw [Nat.zero_add]; exact (row1 i hi).1⟩⟩, ⟨_, cap2, rfl, unhide RM⟩, (unhide BEL).trans (u1.below w.heap.size (unhide BEL).size (fun j e => by omega))⟩)
        clear re up row1 u1
        go_wp2
        go_ret
        exact ⟨_, s, rfl, unhide RO⟩
      · have hnil : pos c k = [] := List.eq_nil_of_length_eq_zero (by omega)
        obtain rfl := gat.nn hnil
        have RO := hide (show ∀ w1, w1 = wr → Rose w w1 (.slice none 0 0) c k (fun i => (pos c k).getD i 0) from fun w1 e => by
          subst e
          have e0 : (pos c k).length = 0 := by rw [hnil]; rfl
          refine ⟨Re.refl _ _ _, fun i j _ _ h => by omega, ⟨none, 0, by rw [e0], fun i hi => by omega⟩, ⟨none, 0, by rw [e0], by omega⟩, gat.bel⟩)
        clear gat hnil
        go_wp2_with fail
        refine (sta21_nil _ _).mono ?_
        rintro e w1 ⟨rfl, hw⟩
        have HW := hide hw
        clear hw
        go_wp2
        go_ret
        exact ⟨_, _, rfl, unhide RO _ (unhide HW)⟩
end Go.Proofs.YtaidboopcoaeeaaDoor.ZRis2
