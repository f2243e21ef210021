/-
  Contract: slices.symMergeCmpFunc, where the second row is of one. Conditions: the places lie in the row.
  Contracts: slices.swapRangeCmpFunc, slices.rotateCmpFunc. Conditions: the places lie in the row.
  Contract: slices.symMergeCmpFunc. Conditions: the places lie in the row.
  Contracts: slices.stableCmpFunc, slices.SortStableFunc. Conditions: the row is not long.
-/
import Derived.Test.YtgjpcjnhggcfdaaGreatDoorC18
namespace Go.Proofs.YtgjpcjnhggcfdaaGreatDoor.ZSyr
open Go.ChangeShapes Go.WideShapes Go.ChangeAt Go.RowKit Go.Proofs.YtgjpcjnhggcfdaaGreatDoor.Core Go.Proofs.YtgjpcjnhggcfdaaGreatDoor.Gnd Go.Proofs.YtgjpcjnhggcfdaaGreatDoor.ZSrt Go.Proofs.YtgjpcjnhggcfdaaGreatDoor.ZIns Go.Proofs.YtgjpcjnhggcfdaaGreatDoor.ZSyl

set_option maxRecDepth 20000 in
set_option maxHeartbeats 4000000 in
theorem syr30 (K : Nat) (eg : ∀ args w, (callFunc K args).run Tryz.prog w = .ok (.enter K args) w) (cb : Array Value) (g n cap a m b len : Nat) (f : Nat → Nat) (c : Nat → Int) (w : World) (hr : Row w g n f) (rg : Rg f n len) (ask : Asks K cb w g len c)
    (hm : b = m + 1) (h0 : m ≠ a + 1) (h1 : a < m) (h2 : b ≤ n) (hn : n ≤ 100000) (up : Up c f a m) :
    Calls Tryz.prog 103 #[.slice (some ⟨g, 0, none⟩) n cap, .int .i64 a, .int .i64 m, .int .i64 b, .func (.func K) #[] cb] w fun e w' => e = .returned (.tuple #[]) ∧ ∃ f', Re a b f f' ∧ Up c f' a b ∧ Row w' g n f' ∧ Upd (fun k => k = g) w w' := by
  have RR := hide hr
  have RG := hide rg
  have ASK := hide ask
  have UP := hide up
  have e1 : ((m : Int) - a == 1) = false := beq_eq_false_iff_ne.2 (by omega)
  have e2 : (b : Int) - m = 1 := by omega
  have HM := hide hm
  have hmn : m < n := by omega
  clear hr rg ask up hm h0
  go_enter Tryz.func103, Tryz.ntmps103
  go_wp2
  go_loopw [14, 15] (fun x y wr => ∃ (i j : Nat), x = .int .i64 i ∧ y = .int .i64 j ∧ a ≤ i ∧ i ≤ j ∧ j ≤ m ∧ (∀ k, a ≤ k → k < i → c (f k) ≤ c (f m)) ∧ (∀ k, j ≤ k → k < m → c (f m) < c (f k)) ∧ Row wr g n f ∧ Upd (fun k => k = g) w wr) (fun x y _ => (intOf y).toNat - (intOf x).toNat)
  case atStart => exact ⟨a, m, rfl, rfl, by omega, by omega, by omega, fun k _ _ => by omega, fun k _ _ => by omega, unhide RR, Upd.refl _ w⟩
  case round =>
    obtain ⟨i, j, rfl, rfl, hi, hij, hj, lo, hi2, row, u⟩ := hrel
    have LO := hide lo
    have HI := hide hi2
    have ROW := hide row
    have UU := hide u
    clear lo hi2
    by_cases hlt : i < j
    · have hlt' : (i : Int) < (j : Int) := by omega
      obtain ⟨h, hh⟩ : ∃ h, h = (i + j) / 2 := ⟨_, rfl⟩
      have hh' : ((i : Int) + j) / 2 = (h : Int) := by omega
      have hih : i ≤ h := by omega
      have hhj : h < j := by omega
      clear hh
      obtain ⟨c1, f1'⟩ := row h (by omega)
      obtain ⟨c2, f2'⟩ := row m (by omega)
      have g1 := unhide RG h (by omega)
      have g2 := unhide RG m (by omega)
      have AK := hide (fun q => (unhide ASK).2 (wr.drewN q) (u.drewN q) _ _ g2 g1)
      have v1 := (unhide ASK).1 _ g1
      have v2 := (unhide ASK).1 _ g2
      clear row u
      have hx : (h : Int) < n := by omega
      have hy : (m : Int) < n := by omega
      by_cases hc : c (f m) < c (f h)
      · have hc' : c (f m) - c (f h) < 0 := by omega
        have LN := hide (show ∀ k, h ≤ k → k < m → c (f m) < c (f k) from fun k k1 k2 => by
          by_cases e : k = h
          · subst e; exact hc
          · have := unhide UP h k (by omega) (by omega) k2
            omega)
        go_wp2
        go_quiet ((go_at_fn K; exact Calls.quiet_of (unhide AK _)))
        rename_i nq
        have RQ := hide ((unhide ROW).drewN nq)
        have UQ := hide ((unhide UU).drewN nq)
        clear c1 c2 f1' f2' AK
        generalize wr.drewN nq = wq at *
        go_wp2
        go_roundw
        case rel => exact ⟨i, h, rfl, by go_num, hi, by omega, by omega, unhide LO, unhide LN, unhide RQ, unhide UQ⟩
        case measure => simp [intOf]; omega
      · have hc' : decide (c (f m) - c (f h) < 0) = false := decide_eq_false (by omega)
        have LN := hide (show ∀ k, a ≤ k → k < h + 1 → c (f k) ≤ c (f m) from fun k k1 k2 => by
          by_cases e : k = h
          · subst e; omega
          · have := unhide UP k h k1 (by omega) (by omega)
            omega)
        go_wp2
        go_quiet ((go_at_fn K; exact Calls.quiet_of (unhide AK _)))
        rename_i nq
        have RQ := hide ((unhide ROW).drewN nq)
        have UQ := hide ((unhide UU).drewN nq)
        clear c1 c2 f1' f2' AK
        generalize wr.drewN nq = wq at *
        go_wp2
        go_roundw
        case rel => exact ⟨h + 1, j, by go_num, rfl, by omega, by omega, hj, unhide LN, unhide HI, unhide RQ, unhide UQ⟩
        case measure => simp [intOf]; omega
    · obtain rfl : i = j := by omega
      have hnl : ¬ (i : Int) < (i : Int) := by omega
      have DONE := hide (mw_up (unhide UP) hi hj (unhide LO) (unhide HI))
      rw [← unhide HM] at DONE
      clear row u hlt
      go_wp2
      go_loopw [17] (fun x wi => ∃ k : Nat, x = .int .i64 k ∧ i ≤ k ∧ k ≤ m ∧ Re a b f (fun x => f (mw k m x)) ∧ Row wi g n (fun x => f (mw k m x)) ∧ Upd (fun k => k = g) w wi) (fun x _ => (intOf x).toNat)
      case atStart => exact ⟨m, rfl, hj, by omega, (Re.refl a b f).congr (fun x => by rw [mw_start]), (unhide ROW).congr (fun x _ => by rw [mw_start]), unhide UU⟩
      case round =>
        clear ROW UU
        obtain ⟨k, rfl, hak, hki, re, row, u⟩ := hrel
        have RE := hide re
        have ROW := hide row
        have UU := hide u
        by_cases hlt : i < k
        · obtain ⟨k, rfl⟩ : ∃ p, k = p + 1 := ⟨k - 1, by omega⟩
          have hlt' : (i : Int) < (k : Int) + 1 := by omega
          have q1 := row (k + 1) (by omega)
          have q2 := row k (by omega)
          have d1 : wr.cell? ⟨g, k + 1, none⟩ = some (.int .i64 (f m)) := by have := q1.1; rwa [show (fun x => f (mw (k + 1) m x)) (k + 1) = f m from by show f (mw (k + 1) m (k + 1)) = f m; rw [mw_2]] at this
          have d2 : wr.cell? ⟨g, k, none⟩ = some (.int .i64 (f k)) := by have := q2.1; rwa [show (fun x => f (mw (k + 1) m x)) k = f k from by show f (mw (k + 1) m k) = f k; rw [mw_3 (by omega) hki]] at this
          have p1 := q1.2
          have p2 := q2.2
          have hb := unhide HM
          have RN := hide (((unhide RE).trans (Re.swap a b (k + 1) k _ (by omega) (by omega))).congr (f2 := fun x => f (mw k m x)) (fun x => by rw [mw_step k m x hki]))
          have EX := hide (show Row ((wr.setCell ⟨g, k + 1, none⟩ (.int .i64 (f k))).setCell ⟨g, k, none⟩ (.int .i64 (f m))) g n (fun x => f (mw k m x)) from by
            have := (row.swap (k + 1) k).congr (f' := fun x => f (mw k m x)) (fun x _ => by rw [mw_step k m x hki])
            simp only [mw_2] at this
            rwa [mw_3 (x := k) (by omega) hki] at this)
          clear re row u q1 q2 hb
          have i1 : (k : Int) < n := by omega
          have i2 : (k : Int) + 1 < n := by omega
          have hne : k + 1 ≠ k := by omega
          go_wp2
          go_region
          go_wp2
          go_roundw
          case rel => exact ⟨k, by go_num, by omega, by omega, unhide RN, unhide EX, (((unhide UU).setCell (p := ⟨g, k + 1, none⟩) rfl _).setCell (p := ⟨g, k, none⟩) rfl _).drewN 1⟩
          case measure => simp [intOf]
        · obtain rfl : k = i := by omega
          have hnl2 : ¬ (k : Int) < (k : Int) := by omega
          clear re row u
          go_wp2
          refine bodyPost_ret (results_none rfl _ _ _) rfl ?_
          exact ⟨rfl, _, unhide RE, unhide DONE, unhide ROW, unhide UU⟩
end Go.Proofs.YtgjpcjnhggcfdaaGreatDoor.ZSyr

namespace Go.Proofs.YtgjpcjnhggcfdaaGreatDoor.ZRot
open Go.ChangeShapes Go.WideShapes Go.ChangeAt Go.RowKit Go.Proofs.YtgjpcjnhggcfdaaGreatDoor.Core Go.Proofs.YtgjpcjnhggcfdaaGreatDoor.Gnd Go.Proofs.YtgjpcjnhggcfdaaGreatDoor.ZSrt

set_option maxHeartbeats 1000000 in
theorem swp33 (g n cap a b m : Nat) (f : Nat → Nat) (cf : Value) (w : World) (hr : Row w g n f) (h1 : a + m ≤ b) (h2 : b + m ≤ n) (hn : n ≤ 100000) :
    Calls Tryz.prog 106 #[.slice (some ⟨g, 0, none⟩) n cap, .int .i64 a, .int .i64 b, .int .i64 m, cf] w fun e w' => e = .returned (.tuple #[]) ∧ Row w' g n (fun k => f (sr a b m k)) ∧ Upd (fun k => k = g) w w' := by
  have RR := hide hr
  clear hr
  go_enter Tryz.func106, Tryz.ntmps106
  go_wp2
  go_loopw [10] (fun i wr => ∃ k : Nat, k ≤ m ∧ i = .int .i64 k ∧ Row wr g n (fun j => f (sr a b k j)) ∧ Upd (fun k => k = g) w wr) (fun i _ => m - (intOf i).toNat)
  case atStart => exact ⟨0, Nat.zero_le _, rfl, (unhide RR).congr (fun i _ => by rw [sr_zero]), Upd.refl _ w⟩
  case round =>
    obtain ⟨k, hk, rfl, row, u⟩ := hrel
    have ROW := hide row
    have UU := hide u
    by_cases hlt : k < m
    · have hlt' : (k : Int) < (m : Int) := by omega
      obtain ⟨c1, f1⟩ := row (a + k) (by omega)
      obtain ⟨c2, f2⟩ := row (b + k) (by omega)
      clear row u
      have EX := hide (show Row ((wr.setCell ⟨g, a + k, none⟩ (.int .i64 (f (sr a b k (b + k))))).setCell ⟨g, b + k, none⟩ (.int .i64 (f (sr a b k (a + k))))) g n (fun j => f (sr a b (k + 1) j)) from ((unhide ROW).swap (a + k) (b + k)).congr (fun i _ => by rw [sr_step a b k i (by omega)]))
      have hne : a + k ≠ b + k := by omega
      have i1 : (a : Int) + k < n := by omega
      have i2 : (b : Int) + k < n := by omega
      go_wp2
      go_region
      go_wp2
      go_roundw
      case rel =>
        exact ⟨k + 1, by omega, by go_num, unhide EX, (((unhide UU).setCell (p := ⟨g, a + k, none⟩) rfl _).setCell (p := ⟨g, b + k, none⟩) rfl _).drewN 1⟩
      case measure => simp [intOf]; omega
    · obtain rfl : k = m := by omega
      have hnl : ¬ (k : Int) < (k : Int) := by omega
      clear row u
      go_wp2
      go_end0
      exact ⟨rfl, unhide ROW, unhide UU⟩

/-- What is left to do of a turn. -/
structure Rest (a m b i j : Nat) (f f1 : Nat → Nat) : Prop where
  out : ∀ k, (k < m - i ∨ m + j ≤ k) → f1 k = f (ro a m b k)
  left : ∀ k, m - i ≤ k → k < m - i + j → f (ro a m b k) = f1 (k + i)
  right : ∀ k, m - i + j ≤ k → k < m + j → f (ro a m b k) = f1 (k - j)
theorem Rest.start (a m b : Nat) (f : Nat → Nat) (h1 : a < m) (h2 : m < b) : Rest a m b (m - a) (b - m) f f := by
  refine ⟨fun k hk => ?_, fun k hk hl => ?_, fun k hk hl => ?_⟩
  · unfold ro; rw [if_neg (by omega)]
  · unfold ro; rw [if_pos (by omega), if_pos (by omega)]
  · unfold ro; rw [if_pos (by omega), if_neg (by omega)]
theorem sr_1 {a b m k : Nat} (h : a ≤ k ∧ k < a + m) : sr a b m k = k - a + b := by unfold sr; rw [if_pos h]
theorem sr_2 {a b m k : Nat} (h : b ≤ k ∧ k < b + m) (h0 : a + m ≤ b) : sr a b m k = k - b + a := by unfold sr; rw [if_neg (by omega), if_pos h]
theorem sr_3 {a b m k : Nat} (h : ¬ (a ≤ k ∧ k < a + m)) (h0 : ¬ (b ≤ k ∧ k < b + m)) : sr a b m k = k := by unfold sr; rw [if_neg h, if_neg h0]
theorem Rest.more {a m b i j : Nat} {f f1 : Nat → Nat} (h : Rest a m b i j f f1) (hi : j < i) (hm : i ≤ m) (h0 : 0 < j) : Rest a m b (i - j) j f (fun k => f1 (sr (m - i) m j k)) := by
  refine ⟨fun k hk => ?_, fun k hk hl => ?_, fun k hk hl => ?_⟩
  · by_cases e : m - i ≤ k ∧ k < m - i + j
    · show f1 (sr (m - i) m j k) = _
      rw [sr_1 e, h.left k e.1 e.2]
      congr 1; omega
    · show f1 (sr (m - i) m j k) = _
      rw [sr_3 e (by omega), h.out k (by omega)]
  · show _ = f1 (sr (m - i) m j (k + (i - j)))
    rw [sr_2 (by omega) (by omega), h.right k (by omega) (by omega)]
    congr 1; omega
  · show _ = f1 (sr (m - i) m j (k - j))
    rw [sr_3 (by omega) (by omega), h.right k (by omega) (by omega)]
theorem Rest.less {a m b i j : Nat} {f f1 : Nat → Nat} (h : Rest a m b i j f f1) (hi : i < j) (hm : i ≤ m) (h0 : 0 < i) : Rest a m b i (j - i) f (fun k => f1 (sr (m - i) (m + j - i) i k)) := by
  refine ⟨fun k hk => ?_, fun k hk hl => ?_, fun k hk hl => ?_⟩
  · by_cases e : m + j - i ≤ k ∧ k < m + j - i + i
    · show f1 (sr (m - i) (m + j - i) i k) = _
      rw [sr_2 e (by omega), h.right k (by omega) (by omega)]
      congr 1; omega
    · show f1 (sr (m - i) (m + j - i) i k) = _
      rw [sr_3 (by omega) e, h.out k (by omega)]
  · show _ = f1 (sr (m - i) (m + j - i) i (k + i))
    rw [sr_3 (by omega) (by omega), h.left k (by omega) (by omega)]
  · show _ = f1 (sr (m - i) (m + j - i) i (k - (j - i)))
    rw [sr_1 (by omega), h.left k (by omega) (by omega)]
    congr 1; omega
theorem Rest.done {a m b i : Nat} {f f1 : Nat → Nat} (h : Rest a m b i i f f1) (hm : i ≤ m) (k : Nat) : f1 (sr (m - i) m i k) = f (ro a m b k) := by
  by_cases e : m - i ≤ k ∧ k < m - i + i
  · rw [sr_1 e, h.left k e.1 e.2]
    congr 1; omega
  · by_cases e2 : m ≤ k ∧ k < m + i
    · rw [sr_2 e2 (by omega), h.right k (by omega) (by omega)]
      congr 1; omega
    · rw [sr_3 e e2, h.out k (by omega)]
set_option maxHeartbeats 1000000 in
theorem rot32 (g n cap a m b : Nat) (f : Nat → Nat) (cf : Value) (w : World) (hr : Row w g n f) (h1 : a < m) (h2 : m < b) (h3 : b ≤ n) (hn : n ≤ 100000) :
    Calls Tryz.prog 105 #[.slice (some ⟨g, 0, none⟩) n cap, .int .i64 a, .int .i64 m, .int .i64 b, cf] w fun e w' => e = .returned (.tuple #[]) ∧ Row w' g n (fun k => f (ro a m b k)) ∧ Upd (fun k => k = g) w w' := by
  have RR := hide hr
  clear hr
  have e1 : (m : Int) - a = ((m - a : Nat) : Int) := by omega
  have e2 : (b : Int) - m = ((b - m : Nat) : Int) := by omega
  have ST := hide (Rest.start a m b f h1 h2)
  have b1 : m - a ≤ m := by omega
  have b2 : 0 < m - a := by omega
  have b3 : m + (b - m) = b := by omega
  have b4 : 0 < b - m := by omega
  have B := hide (And.intro b1 (And.intro b2 (And.intro b3 b4)))
  clear b1 b2 b3 b4
  go_enter Tryz.func105, Tryz.ntmps105
  go_wp2
  go_loopw [10, 11] (fun x y wr => ∃ (i j : Nat) (f1 : Nat → Nat), x = .int .i64 i ∧ y = .int .i64 j ∧ 0 < i ∧ 0 < j ∧ i ≤ m ∧ m + j ≤ b ∧ Rest a m b i j f f1 ∧ Row wr g n f1 ∧ Upd (fun k => k = g) w wr) (fun x y _ => (intOf x).toNat + (intOf y).toNat)
  case atStart =>
    obtain ⟨b1, b2, b3, b4⟩ := unhide B
    exact ⟨m - a, b - m, f, by go_num, by go_num, b2, b4, b1, by omega, unhide ST, unhide RR, Upd.refl _ w⟩
  case round =>
    obtain ⟨i, j, f1, rfl, rfl, hi, hj, him, hjb, rest, row, u⟩ := hrel
    have REST := hide rest
    have ROW := hide row
    have UU := hide u
    clear rest row u e1 e2
    have e3 : (m : Int) - i = ((m - i : Nat) : Int) := by omega
    by_cases hij : i = j
    · subst hij
      go_wp2_with fail
      refine (swp33 g n cap (m - i) m i f1 _ _ (unhide ROW) (by omega) (by omega) hn).mono ?_
      rintro e w1 ⟨rfl, r1, u1⟩
      have R1 := hide (r1.congr (fun k _ => (unhide REST).done him k))
      have U1 := hide ((unhide UU).trans u1)
      clear r1 u1
      go_wp2
      go_end0
      exact ⟨rfl, unhide R1, unhide U1⟩
    · have hne : ¬ (i : Int) = (j : Int) := by omega
      by_cases hlt : j < i
      · have hlt' : (j : Int) < (i : Int) := by omega
        have e4 : (i : Int) - j = ((i - j : Nat) : Int) := by omega
        go_wp2_with fail
        refine (swp33 g n cap (m - i) m j f1 _ _ (unhide ROW) (by omega) (by omega) hn).mono ?_
        rintro e w1 ⟨rfl, r1, u1⟩
        have R1 := hide r1
        have U1 := hide ((unhide UU).trans u1)
        clear r1 u1
        go_wp2
        go_roundw
        case rel => exact ⟨i - j, j, _, by go_num, rfl, by omega, hj, by omega, hjb, (unhide REST).more hlt him hj, unhide R1, unhide U1⟩
        case measure => simp [intOf]; omega
      · have hlt' : ¬ (j : Int) < (i : Int) := by omega
        have e4 : (j : Int) - i = ((j - i : Nat) : Int) := by omega
        have e5 : (m : Int) + j - i = ((m + j - i : Nat) : Int) := by omega
        go_wp2_with fail
        refine (swp33 g n cap (m - i) (m + j - i) i f1 _ _ (unhide ROW) (by omega) (by omega) hn).mono ?_
        rintro e w1 ⟨rfl, r1, u1⟩
        have R1 := hide r1
        have U1 := hide ((unhide UU).trans u1)
        clear r1 u1
        go_wp2
        go_roundw
        case rel => exact ⟨i, j - i, _, rfl, by go_num, hi, by omega, him, by omega, (unhide REST).less (by omega) him hi, unhide R1, unhide U1⟩
        case measure => simp [intOf]; omega
end Go.Proofs.YtgjpcjnhggcfdaaGreatDoor.ZRot

namespace Go.Proofs.YtgjpcjnhggcfdaaGreatDoor.ZSym
open Go.ChangeShapes Go.WideShapes Go.ChangeAt Go.RowKit Go.Proofs.YtgjpcjnhggcfdaaGreatDoor.Core Go.Proofs.YtgjpcjnhggcfdaaGreatDoor.Gnd Go.Proofs.YtgjpcjnhggcfdaaGreatDoor.ZSrt Go.Proofs.YtgjpcjnhggcfdaaGreatDoor.ZIns Go.Proofs.YtgjpcjnhggcfdaaGreatDoor.ZSyl Go.Proofs.YtgjpcjnhggcfdaaGreatDoor.ZSyr Go.Proofs.YtgjpcjnhggcfdaaGreatDoor.ZRot

/-- Where the two rows are cut: s is the cut of the first, mid + m - s that of the second. -/
structure Cut (c : Nat → Int) (f : Nat → Nat) (a m b mid s : Nat) : Prop where
  low : s = a ∨ mid + m - s = b ∨ (a < s ∧ mid + m - s < b ∧ c (f (s - 1)) ≤ c (f (mid + m - s)))
  high : s = m ∨ mid = s ∨ (s < m ∧ m < mid + m - s ∧ c (f (mid + m - s - 1)) < c (f s))
theorem ro_at {a m b k : Nat} (h1 : a ≤ k) (h2 : k < a + (b - m)) (hb : k < b) : ro a m b k = k + (m - a) := by unfold ro; rw [if_pos ⟨h1, hb⟩, if_pos h2]
theorem ro_le {a m b k : Nat} (h1 : a ≤ k) (h2 : ¬ k < a + (b - m)) (hb : k < b) : ro a m b k = k - (b - m) := by unfold ro; rw [if_pos ⟨h1, hb⟩, if_neg h2]
theorem ro_out {a m b k : Nat} (h : k < a ∨ b ≤ k) : ro a m b k = k := by unfold ro; rw [if_neg (by omega)]
theorem ro_re (a m b : Nat) (f : Nat → Nat) (h1 : a ≤ m) (h2 : m ≤ b) : Re a b f (fun k => f (ro a m b k)) := by
  refine ⟨ro a m b, ro a (a + (b - m)) b, fun k => ?_, fun k hk => ?_, fun k hk hl => ?_, fun _ => rfl⟩
  · by_cases e : a ≤ k ∧ k < b
    · constructor
      · by_cases e1 : k < a + (b - (a + (b - m)))
        · rw [ro_at (m := a + (b - m)) e.1 e1 e.2, ro_le (by omega) (by omega) (by omega)]
          omega
        · rw [ro_le (m := a + (b - m)) e.1 e1 e.2, ro_at (by omega) (by omega) (by omega)]
          omega
      · by_cases e1 : k < a + (b - m)
        · rw [ro_at (m := m) e.1 e1 e.2, ro_le (by omega) (by omega) (by omega)]
          omega
        · rw [ro_le (m := m) e.1 e1 e.2, ro_at (by omega) (by omega) (by omega)]
          omega
    · rw [ro_out (m := a + (b - m)) (by omega), ro_out (m := m) (k := k) (by omega), ro_out (by omega)]
      exact ⟨rfl, rfl⟩
  · exact ⟨ro_out hk, ro_out hk⟩
  · by_cases e1 : k < a + (b - m)
    · rw [ro_at hk e1 hl]
      by_cases e2 : k < a + (b - (a + (b - m)))
      · rw [ro_at hk e2 hl]; omega
      · rw [ro_le hk e2 hl]; omega
    · rw [ro_le hk e1 hl]
      by_cases e2 : k < a + (b - (a + (b - m)))
      · rw [ro_at hk e2 hl]; omega
      · rw [ro_le hk e2 hl]; omega
/-- Behind the turn: what stands ahead of mid is not above what stands behind it, and each half is two rows that rise. -/
structure Half (c : Nat → Int) (f : Nat → Nat) (a s mid e b : Nat) : Prop where
  l1 : Up c f a s
  l2 : Up c f s mid
  r1 : Up c f mid e
  r2 : Up c f e b
  all : ∀ x y, a ≤ x → x < mid → mid ≤ y → y < b → c (f x) ≤ c (f y)
theorem half_of {c : Nat → Int} {f : Nat → Nat} {a m b mid s : Nat} (u1 : Up c f a m) (u2 : Up c f m b) (hs : a ≤ s) (hsm : s ≤ m) (hsd : s ≤ mid) (he : mid + m - s ≤ b) (cut : Cut c f a m b mid s) :
    Half c (fun k => f (ro s m (mid + m - s) k)) a s mid (mid + m - s) b := by
  have A : ∀ x, a ≤ x → x < s → ro s m (mid + m - s) x = x := fun x h1 h2 => ro_out (by omega)
  have B : ∀ x, s ≤ x → x < mid → ro s m (mid + m - s) x = x + (m - s) := fun x h1 h2 => ro_at h1 (by omega) (by omega)
  have C : ∀ x, mid ≤ x → x < mid + m - s → ro s m (mid + m - s) x = x - (mid - s) := fun x h1 h2 => by rw [ro_le (by omega) (by omega) h2]; omega
  have D : ∀ x, mid + m - s ≤ x → ro s m (mid + m - s) x = x := fun x h1 => ro_out (by omega)
  have le1 : ∀ i j, a ≤ i → i ≤ j → j < m → c (f i) ≤ c (f j) := fun i j h1 h2 h3 => by
    by_cases e : i = j
    · subst e; exact Int.le_refl _
    · exact u1 i j h1 (by omega) h3
  have le2 : ∀ i j, m ≤ i → i ≤ j → j < b → c (f i) ≤ c (f j) := fun i j h1 h2 h3 => by
    by_cases e : i = j
    · subst e; exact Int.le_refl _
    · exact u2 i j h1 (by omega) h3
  refine ⟨fun x y h1 h2 h3 => ?_, fun x y h1 h2 h3 => ?_, fun x y h1 h2 h3 => ?_, fun x y h1 h2 h3 => ?_, fun x y h1 h2 h3 h4 => ?_⟩
  · show c (f _) ≤ c (f _)
    rw [A x h1 (by omega), A y (by omega) h3]
    exact u1 _ _ h1 h2 (by omega)
  · show c (f _) ≤ c (f _)
    rw [B x h1 (by omega), B y (by omega) h3]
    exact u2 _ _ (by omega) (by omega) (by omega)
  · show c (f _) ≤ c (f _)
    rw [C x h1 (by omega), C y (by omega) h3]
    exact u1 _ _ (by omega) (by omega) (by omega)
  · show c (f _) ≤ c (f _)
    rw [D x h1, D y (by omega)]
    exact u2 _ _ (by omega) h2 h3
  · show c (f _) ≤ c (f _)
    by_cases ex : x < s
    · rw [A x h1 ex]
      by_cases ey : y < mid + m - s
      · rw [C y h3 ey]
        exact le1 _ _ h1 (by omega) (by omega)
      · rw [D y (by omega)]
        rcases cut.low with h | h | ⟨p1, p2, p3⟩
        · omega
        · omega
        · have q1 := le1 x (s - 1) h1 (by omega) (by omega)
          have q2 := le2 (mid + m - s) y (by omega) (by omega) h4
          omega
    · rw [B x (by omega) h2]
      by_cases ey : y < mid + m - s
      · rw [C y h3 ey]
        rcases cut.high with h | h | ⟨p1, p2, p3⟩
        · omega
        · omega
        · have q1 := le2 (x + (m - s)) (mid + m - s - 1) (by omega) (by omega) (by omega)
          have q2 := le1 s (y - (mid - s)) (by omega) (by omega) (by omega)
          omega
      · rw [D y (by omega)]
        exact le2 _ _ (by omega) (by omega) h4
/-- Two halves that rise, the first not above the second. -/
theorem up_join {c : Nat → Int} {f f1 f2 : Nat → Nat} {a mid b : Nat} (all : ∀ x y, a ≤ x → x < mid → mid ≤ y → y < b → c (f x) ≤ c (f y)) (r1 : Re a mid f f1) (u1 : Up c f1 a mid) (r2 : Re mid b f1 f2) (u2 : Up c f2 mid b) : Up c f2 a b := fun x y h1 h2 h3 => by
  by_cases ey : y < mid
  · rw [r2.out x (by omega), r2.out y (by omega)]
    exact u1 x y h1 h2 ey
  · by_cases ex : x < mid
    · rw [r2.out x (by omega)]
      obtain ⟨i, i1, i2, i3⟩ := r1.into x h1 ex
      obtain ⟨j, j1, j2, j3⟩ := r2.into y (by omega) h3
      rw [i3, j3, r1.out j (by omega)]
      exact all i j i1 i2 j1 j2
    · exact u2 x y (by omega) h2 h3
theorem ro_same {s m e k : Nat} (h : s = m ∨ e = m) : ro s m e k = k := by
  by_cases h1 : s ≤ k ∧ k < e
  · by_cases h2 : k < s + (e - m)
    · rw [ro_at h1.1 h2 h1.2]; omega
    · rw [ro_le h1.1 h2 h1.2]; omega
  · exact ro_out (by omega)
theorem Up.same {c : Nat → Int} {f f' : Nat → Nat} {a b : Nat} (h : Up c f a b) (e : ∀ k, a ≤ k → k < b → f' k = f k) : Up c f' a b := fun x y h1 h2 h3 => by
  rw [e x h1 (by omega), e y (by omega) h3]
  exact h x y h1 h2 h3
/-- What the search knows. -/
structure Find (c : Nat → Int) (f : Nat → Nat) (N lo hi s r : Nat) : Prop where
  b1 : lo ≤ s
  b2 : s ≤ r
  b3 : r ≤ hi
  low : ∀ x, lo ≤ x → x < s → c (f x) ≤ c (f (N - 1 - x))
  high : ∀ x, r ≤ x → x < hi → c (f (N - 1 - x)) < c (f x)
theorem Find.start (c : Nat → Int) (f : Nat → Nat) (N lo hi : Nat) (h : lo ≤ hi) : Find c f N lo hi lo hi := ⟨Nat.le_refl _, h, Nat.le_refl _, fun x _ _ => by omega, fun x _ _ => by omega⟩
theorem Find.up {c : Nat → Int} {f : Nat → Nat} {a m b N lo hi s r h : Nat} (t : Find c f N lo hi s r) (u1 : Up c f a m) (u2 : Up c f m b) (h1 : a ≤ lo) (h2 : hi ≤ m) (h3 : N ≤ lo + b) (h4 : hi + m ≤ N) (hs : s ≤ h) (hr : h < r) (q : c (f h) ≤ c (f (N - 1 - h))) : Find c f N lo hi (h + 1) r := by
  have := t.b3
  refine ⟨by have := t.b1; omega, by omega, t.b3, fun x x1 x2 => ?_, t.high⟩
  by_cases e : x = h
  · subst e; exact q
  · have a1 := u1 x h (by omega) (by omega) (by omega)
    have a2 := u2 (N - 1 - h) (N - 1 - x) (by omega) (by omega) (by omega)
    omega
theorem Find.down {c : Nat → Int} {f : Nat → Nat} {a m b N lo hi s r h : Nat} (t : Find c f N lo hi s r) (u1 : Up c f a m) (u2 : Up c f m b) (h1 : a ≤ lo) (h2 : hi ≤ m) (h3 : N ≤ lo + b) (h4 : hi + m ≤ N) (hs : s ≤ h) (hr : h < r) (q : c (f (N - 1 - h)) < c (f h)) : Find c f N lo hi s h := by
  have := t.b3
  have := t.b1
  refine ⟨t.b1, hs, by omega, t.low, fun x x1 x2 => ?_⟩
  by_cases e : x = h
  · subst e; exact q
  · have a1 := u1 h x (by omega) (by omega) (by omega)
    have a2 := u2 (N - 1 - x) (N - 1 - h) (by omega) (by omega) (by omega)
    omega
theorem Find.cut {c : Nat → Int} {f : Nat → Nat} {a m b mid lo hi s : Nat} (t : Find c f (mid + m) lo hi s s) (h : (m > mid ∧ lo = mid + m - b ∧ hi = mid) ∨ (m ≤ mid ∧ lo = a ∧ hi = m)) (ha : a ≤ lo) (hb : mid + m ≤ lo + b) (hm : m < b) (hM : mid < m → b ≤ mid + m) : Cut c f a m b mid s := by
  have b1 := t.b1
  have b3 := t.b3
  constructor
  · by_cases e : s = lo
    · rcases h with ⟨h1, h2, h3⟩ | ⟨h1, h2, h3⟩
      · exact .inr (.inl (by omega))
      · exact .inl (by omega)
    · have := t.low (s - 1) (by omega) (by omega)
      rw [show mid + m - 1 - (s - 1) = mid + m - s by omega] at this
      exact .inr (.inr ⟨by omega, by omega, this⟩)
  · by_cases e : s = hi
    · rcases h with ⟨h1, h2, h3⟩ | ⟨h1, h2, h3⟩
      · exact .inr (.inl (by omega))
      · exact .inl (by omega)
    · have := t.high s (Nat.le_refl _) (by omega)
      rw [show mid + m - 1 - s = mid + m - s - 1 by omega] at this
      exact .inr (.inr ⟨by omega, by omega, this⟩)
set_option maxRecDepth 20000 in
set_option maxHeartbeats 8000000 in
theorem sym30 (K : Nat) (eg : ∀ args w, (callFunc K args).run Tryz.prog w = .ok (.enter K args) w) (cb : Array Value) (g n cap len : Nat) (c : Nat → Int) (hn : n ≤ 100000) : ∀ (d a m b : Nat) (f : Nat → Nat) (w : World), b - a ≤ d → a < m → m < b → b ≤ n →
    Row w g n f → Rg f n len → Asks K cb w g len c → Up c f a m → Up c f m b →
    Calls Tryz.prog 103 #[.slice (some ⟨g, 0, none⟩) n cap, .int .i64 a, .int .i64 m, .int .i64 b, .func (.func K) #[] cb] w fun e w' => e = .returned (.tuple #[]) ∧ ∃ f', Re a b f f' ∧ Up c f' a b ∧ Row w' g n f' ∧ Upd (fun k => k = g) w w' := by
  intro d
  induction d with
  | zero => intro a m b f w h0 h1 h2; omega
  | succ d ih =>
    intro a m b f w h0 h1 h2 h3 hr rg ask up1 up2
    have IH := hide ih
    clear ih
    by_cases hl : m = a + 1
    · rw [hl] at up2 ⊢
      exact syl30 K eg cb g n cap a (a + 1) b len f c w hr rg ask rfl (by omega) h3 hn up2
    by_cases hb : b = m + 1
    · exact syr30 K eg cb g n cap a m b len f c w hr rg ask hb hl h1 h3 hn up1
    have RR := hide hr
    have RG := hide rg
    have ASK := hide ask
    have UP1 := hide up1
    have UP2 := hide up2
    have e1 : ((m : Int) - a == 1) = false := beq_eq_false_iff_ne.2 (by omega)
    have e2 : ((b : Int) - m == 1) = false := beq_eq_false_iff_ne.2 (by omega)
    obtain ⟨mid, hmid⟩ : ∃ x, x = (a + b) / 2 := ⟨_, rfl⟩
    have em : ((a : Int) + b) / 2 = (mid : Int) := by omega
    have k1 : a < mid := by omega
    have k2 : mid < b := by omega
    have HMID := hide hmid
    obtain ⟨N, hN⟩ : ∃ x, x = mid + m := ⟨_, rfl⟩
    have eN : (mid : Int) + m = (N : Int) := by omega
    obtain ⟨p, hp⟩ : ∃ x, x = N - 1 := ⟨_, rfl⟩
    have eP : (N : Int) - 1 = (p : Int) := by omega
    have HN := hide hN
    have HP := hide hp
    have kN : N ≤ 200000 := by omega
    clear hr rg ask up1 up2 hl hb hmid
    by_cases hg : mid < m
    · have hg' : (mid : Int) < (m : Int) := by omega
      obtain ⟨lo, hlo⟩ : ∃ x, x = N - b := ⟨_, rfl⟩
      have eS : (N : Int) - b = (lo : Int) := by have := unhide HMID; omega
      have k3 : a ≤ lo := by have := unhide HMID; omega
      have k4 : lo ≤ mid := by omega
      have k5 : N ≤ lo + b := by omega
      have HLO := hide hlo
      clear hN hp hlo
      go_enter Tryz.func103, Tryz.ntmps103
      go_wp2
      go_loopw [20, 21] (fun x y wr => ∃ (s r : Nat), x = .int .i64 s ∧ y = .int .i64 r ∧ Find c f N lo mid s r ∧ Row wr g n f ∧ Upd (fun k => k = g) w wr) (fun x y _ => (intOf y).toNat - (intOf x).toNat)
      case atStart => exact ⟨lo, mid, rfl, rfl, Find.start _ _ _ _ _ (by omega), unhide RR, Upd.refl _ w⟩
      case round =>
        obtain ⟨s, r, rfl, rfl, find, row, u⟩ := hrel
        have FIND := hide find
        have ROW := hide row
        have UU := hide u
        have b1 := find.b1
        have b2 := find.b2
        have b3 := find.b3
        have hN := unhide HN
        have hp := unhide HP
        have hlo := unhide HLO
        by_cases hlt : s < r
        · have hlt' : (s : Int) < (r : Int) := by omega
          obtain ⟨h, hh⟩ : ∃ h, h = (s + r) / 2 := ⟨_, rfl⟩
          have hh' : ((s : Int) + r) / 2 = (h : Int) := by omega
          have hih : s ≤ h := by omega
          have hhj : h < r := by omega
          clear hh
          obtain ⟨q, hq⟩ : ∃ x, x = N - 1 - h := ⟨_, rfl⟩
          have eQ : (p : Int) - h = (q : Int) := by omega
          obtain ⟨d1, p1⟩ := row h (by omega)
          obtain ⟨d2, p2⟩ := row q (by omega)
          have g1 := unhide RG h (by omega)
          have g2 := unhide RG q (by omega)
          have AK := hide (fun z => (unhide ASK).2 (wr.drewN z) (u.drewN z) _ _ g2 g1)
          have v1 := (unhide ASK).1 _ g1
          have v2 := (unhide ASK).1 _ g2
          have hx : (h : Int) < n := by omega
          have hy : (q : Int) < n := by omega
          by_cases hc : c (f q) < c (f h)
          · have hc' : c (f q) - c (f h) < 0 := by omega
            have LN := hide (find.down (unhide UP1) (unhide UP2) (by omega) (by omega) (by omega) (by omega) hih hhj (by rw [← hq]; exact hc))
            clear row u find hq hN hp hlo
            go_wp2
            go_quiet ((go_at_fn K; exact Calls.quiet_of (unhide AK _)))
            rename_i nq
            have RQ := hide ((unhide ROW).drewN nq)
            have UQ := hide ((unhide UU).drewN nq)
            clear d1 d2 p1 p2 AK
            generalize wr.drewN nq = wq at *
            go_wp2
            go_roundw
            case rel => exact ⟨s, h, rfl, by go_num, unhide LN, unhide RQ, unhide UQ⟩
            case measure => simp [intOf]; omega
          · have hc' : decide (c (f q) - c (f h) < 0) = false := decide_eq_false (by omega)
            have LN := hide (find.up (unhide UP1) (unhide UP2) (by omega) (by omega) (by omega) (by omega) hih hhj (by rw [← hq]; omega))
            clear row u find hq hN hp hlo
            go_wp2
            go_quiet ((go_at_fn K; exact Calls.quiet_of (unhide AK _)))
            rename_i nq
            have RQ := hide ((unhide ROW).drewN nq)
            have UQ := hide ((unhide UU).drewN nq)
            clear d1 d2 p1 p2 AK
            generalize wr.drewN nq = wq at *
            go_wp2
            go_roundw
            case rel => exact ⟨h + 1, r, by go_num, rfl, unhide LN, unhide RQ, unhide UQ⟩
            case measure => simp [intOf]; omega
        · obtain rfl : s = r := by omega
          clear row u find hlt b1 b2 b3
          have hnl : ¬ (s : Int) < (s : Int) := by omega
          obtain ⟨q, hq⟩ : ∃ x, x = N - s := ⟨_, rfl⟩
          have f0 := unhide FIND
          have fb1 := f0.b1
          have fb3 := f0.b3
          have eE : (N : Int) - s = (q : Int) := by omega
          have kas : a ≤ s := by omega
          have ksm : s ≤ m := by omega
          have ksd : s ≤ mid := by omega
          have kqb : q ≤ b := by omega
          have kmq : m ≤ q := by omega
          have kdq : mid ≤ q := by omega
          have QE := hide (show q = mid + m - s by omega)
          have HF := hide (show Half c (fun k => f (ro s m q k)) a s mid q b from by
            rw [unhide QE]
            refine half_of (unhide UP1) (unhide UP2) kas ksm ksd (by omega) ?_
            have f1 := f0
            rw [hN] at f1
            exact f1.cut (by first | exact .inl ⟨by omega, by omega, rfl⟩ | exact .inr ⟨by omega, rfl, rfl⟩) (by omega) (by omega) h2 (by have := unhide HMID; omega))
          have RO := hide (ro_re s m q f ksm kmq)
          have SQ := hide hq
          have rgF : Rg (fun k => f (ro s m q k)) n len := (unhide RO).rg (by omega) (unhide RG)
          have RGF := hide rgF
          clear f0 fb1 fb3 hq rgF hN hp
          by_cases c1 : s < m
          · have c1' : (s : Int) < (m : Int) := by omega
            have c4' : (mid : Int) < (q : Int) := by omega
            by_cases c2 : s < mid
            · have c2' : (s : Int) < (mid : Int) := by omega
              have c3' : (m : Int) < (q : Int) := by omega
              go_wp2_with fail
              refine (rot32 g n cap s m q f _ _ (unhide ROW) c1 (by omega) (by omega) hn).mono ?_
              rintro e wt ⟨rfl, rt, ut⟩
              have RF := hide rt
              have UF := hide ((unhide UU).trans ut)
              clear rt ut
              by_cases c5 : a < s
              · have c5' : (a : Int) < (s : Int) := by omega
                go_wp2_with fail
                refine (unhide IH a s mid _ _ (by omega) (by omega) (by omega) (by omega) (unhide RF) (unhide RGF) ((unhide ASK).keep (unhide UF)) (unhide HF).l1 (unhide HF).l2).mono ?_
                rintro e wl ⟨rfl, f1, re1, up3, r1, u1⟩
                have RE1 := hide re1
                have U3 := hide up3
                have R1 := hide r1
                have UL := hide ((unhide UF).trans u1)
                clear re1 up3 r1 u1
                by_cases c6 : q < b
                · have c6' : (q : Int) < (b : Int) := by omega
                  have x1 := hide (Up.same (unhide HF).r1 (fun k x1 _ => (unhide RE1).out k (.inr x1)))
                  have x2 := hide (Up.same (unhide HF).r2 (fun k x1 _ => (unhide RE1).out k (.inr (by omega))))
                  have x3 := hide ((unhide RE1).rg (n := n) (by omega) (unhide RGF))
                  go_wp2_with fail
                  refine (unhide IH mid q b _ _ (by omega) (by omega) (by omega) h3 (unhide R1) (unhide x3) ((unhide ASK).keep (unhide UL)) (unhide x1) (unhide x2)).mono ?_
                  rintro e wr2 ⟨rfl, f2, re2, up4, r2, u2⟩
                  have RE2 := hide re2
                  have U4 := hide up4
                  have R2 := hide r2
                  have UR := hide ((unhide UL).trans u2)
                  clear re2 up4 r2 u2
                  go_wp2
                  go_end0
                  exact ⟨rfl, f2, (((unhide RO).wide kas kqb).trans ((unhide RE1).wide (Nat.le_refl _) (by omega))).trans ((unhide RE2).wide (by omega) (Nat.le_refl _)), up_join (unhide HF).all (unhide RE1) (unhide U3) (unhide RE2) (unhide U4), unhide R2, unhide UR⟩
                · have c6' : ¬ (q : Int) < (b : Int) := by omega
                  go_wp2
                  go_end0
                  refine ⟨rfl, _, ((unhide RO).wide kas kqb).trans ((unhide RE1).wide (Nat.le_refl _) (by omega)), up_join (unhide HF).all (unhide RE1) (unhide U3) (Re.refl mid b _) ?_, unhide R1, unhide UL⟩
                  refine Up.same (f := fun k => f (ro s m q k)) ?_ (fun k x1 _ => (unhide RE1).out k (.inr x1))
                  have ee : q = b := by omega
                  have hf := (unhide HF).r1
                  rw [ee] at hf ⊢
                  exact hf
              · have c5' : ¬ (a : Int) < (s : Int) := by omega
                have RE1 := hide (Re.refl a mid (fun k => f (ro s m q k)))
                have U3 := hide (show Up c (fun k => f (ro s m q k)) a mid from by
                  have ee : s = a := by omega
                  have hf := (unhide HF).l2
                  rw [ee] at hf ⊢
                  exact hf)
                have R1 := hide (unhide RF)
                have UL := hide (unhide UF)
                by_cases c6 : q < b
                · have c6' : (q : Int) < (b : Int) := by omega
                  have x1 := hide (Up.same (unhide HF).r1 (fun k x1 _ => (unhide RE1).out k (.inr x1)))
                  have x2 := hide (Up.same (unhide HF).r2 (fun k x1 _ => (unhide RE1).out k (.inr (by omega))))
                  have x3 := hide ((unhide RE1).rg (n := n) (by omega) (unhide RGF))
                  go_wp2_with fail
                  refine (unhide IH mid q b _ _ (by omega) (by omega) (by omega) h3 (unhide R1) (unhide x3) ((unhide ASK).keep (unhide UL)) (unhide x1) (unhide x2)).mono ?_
                  rintro e wr2 ⟨rfl, f2, re2, up4, r2, u2⟩
                  have RE2 := hide re2
                  have U4 := hide up4
                  have R2 := hide r2
                  have UR := hide ((unhide UL).trans u2)
                  clear re2 up4 r2 u2
                  go_wp2
                  go_end0
                  exact ⟨rfl, f2, (((unhide RO).wide kas kqb).trans ((unhide RE1).wide (Nat.le_refl _) (by omega))).trans ((unhide RE2).wide (by omega) (Nat.le_refl _)), up_join (unhide HF).all (unhide RE1) (unhide U3) (unhide RE2) (unhide U4), unhide R2, unhide UR⟩
                · have c6' : ¬ (q : Int) < (b : Int) := by omega
                  go_wp2
                  go_end0
                  refine ⟨rfl, _, ((unhide RO).wide kas kqb).trans ((unhide RE1).wide (Nat.le_refl _) (by omega)), up_join (unhide HF).all (unhide RE1) (unhide U3) (Re.refl mid b _) ?_, unhide R1, unhide UL⟩
                  refine Up.same (f := fun k => f (ro s m q k)) ?_ (fun k x1 _ => (unhide RE1).out k (.inr x1))
                  have ee : q = b := by omega
                  have hf := (unhide HF).r1
                  rw [ee] at hf ⊢
                  exact hf
            · have c2' : ¬ (s : Int) < (mid : Int) := by omega
              have c3' : ¬ (m : Int) < (q : Int) := by omega
              have c5' : (a : Int) < (s : Int) := by omega
              have c6' : (q : Int) < (b : Int) := by omega
              have RF := hide ((unhide ROW).congr (f' := fun k => f (ro s m q k)) (fun k _ => by rw [ro_same (.inr (by omega))]))
              have UF := hide (unhide UU)
              have RE1 := hide (Re.refl a mid (fun k => f (ro s m q k)))
              have U3 := hide (show Up c (fun k => f (ro s m q k)) a mid from by
                have ee : s = mid := by omega
                have hf := (unhide HF).l1
                rw [ee] at hf ⊢
                exact hf)
              have R1 := hide (unhide RF)
              have UL := hide (unhide UF)
              have x1 := hide (Up.same (unhide HF).r1 (fun k x1 _ => (unhide RE1).out k (.inr x1)))
              have x2 := hide (Up.same (unhide HF).r2 (fun k x1 _ => (unhide RE1).out k (.inr (by omega))))
              have x3 := hide ((unhide RE1).rg (n := n) (by omega) (unhide RGF))
              go_wp2_with fail
              refine (unhide IH mid q b _ _ (by omega) (by omega) (by omega) h3 (unhide R1) (unhide x3) ((unhide ASK).keep (unhide UL)) (unhide x1) (unhide x2)).mono ?_
              rintro e wr2 ⟨rfl, f2, re2, up4, r2, u2⟩
              have RE2 := hide re2
              have U4 := hide up4
              have R2 := hide r2
              have UR := hide ((unhide UL).trans u2)
              clear re2 up4 r2 u2
              go_wp2
              go_end0
              exact ⟨rfl, f2, (((unhide RO).wide kas kqb).trans ((unhide RE1).wide (Nat.le_refl _) (by omega))).trans ((unhide RE2).wide (by omega) (Nat.le_refl _)), up_join (unhide HF).all (unhide RE1) (unhide U3) (unhide RE2) (unhide U4), unhide R2, unhide UR⟩
          · exfalso; omega
    · have hg' : ¬ (mid : Int) < (m : Int) := by omega
      have k5 : N ≤ a + b := by have := unhide HMID; omega
      clear hN hp
      go_enter Tryz.func103, Tryz.ntmps103
      go_wp2
      go_loopw [20, 21] (fun x y wr => ∃ (s r : Nat), x = .int .i64 s ∧ y = .int .i64 r ∧ Find c f N a m s r ∧ Row wr g n f ∧ Upd (fun k => k = g) w wr) (fun x y _ => (intOf y).toNat - (intOf x).toNat)
      case atStart => exact ⟨a, m, rfl, rfl, Find.start _ _ _ _ _ (by omega), unhide RR, Upd.refl _ w⟩
      case round =>
        obtain ⟨s, r, rfl, rfl, find, row, u⟩ := hrel
        have FIND := hide find
        have ROW := hide row
        have UU := hide u
        have b1 := find.b1
        have b2 := find.b2
        have b3 := find.b3
        have hN := unhide HN
        have hp := unhide HP
        have hlo : True := trivial
        by_cases hlt : s < r
        · have hlt' : (s : Int) < (r : Int) := by omega
          obtain ⟨h, hh⟩ : ∃ h, h = (s + r) / 2 := ⟨_, rfl⟩
          have hh' : ((s : Int) + r) / 2 = (h : Int) := by omega
          have hih : s ≤ h := by omega
          have hhj : h < r := by omega
          clear hh
          obtain ⟨q, hq⟩ : ∃ x, x = N - 1 - h := ⟨_, rfl⟩
          have eQ : (p : Int) - h = (q : Int) := by omega
          obtain ⟨d1, p1⟩ := row h (by omega)
          obtain ⟨d2, p2⟩ := row q (by omega)
          have g1 := unhide RG h (by omega)
          have g2 := unhide RG q (by omega)
          have AK := hide (fun z => (unhide ASK).2 (wr.drewN z) (u.drewN z) _ _ g2 g1)
          have v1 := (unhide ASK).1 _ g1
          have v2 := (unhide ASK).1 _ g2
          have hx : (h : Int) < n := by omega
          have hy : (q : Int) < n := by omega
          by_cases hc : c (f q) < c (f h)
          · have hc' : c (f q) - c (f h) < 0 := by omega
            have LN := hide (find.down (unhide UP1) (unhide UP2) (by omega) (by omega) (by omega) (by omega) hih hhj (by rw [← hq]; exact hc))
            clear row u find hq hN hp hlo
            go_wp2
            go_quiet ((go_at_fn K; exact Calls.quiet_of (unhide AK _)))
            rename_i nq
            have RQ := hide ((unhide ROW).drewN nq)
            have UQ := hide ((unhide UU).drewN nq)
            clear d1 d2 p1 p2 AK
            generalize wr.drewN nq = wq at *
            go_wp2
            go_roundw
            case rel => exact ⟨s, h, rfl, by go_num, unhide LN, unhide RQ, unhide UQ⟩
            case measure => simp [intOf]; omega
          · have hc' : decide (c (f q) - c (f h) < 0) = false := decide_eq_false (by omega)
            have LN := hide (find.up (unhide UP1) (unhide UP2) (by omega) (by omega) (by omega) (by omega) hih hhj (by rw [← hq]; omega))
            clear row u find hq hN hp hlo
            go_wp2
            go_quiet ((go_at_fn K; exact Calls.quiet_of (unhide AK _)))
            rename_i nq
            have RQ := hide ((unhide ROW).drewN nq)
            have UQ := hide ((unhide UU).drewN nq)
            clear d1 d2 p1 p2 AK
            generalize wr.drewN nq = wq at *
            go_wp2
            go_roundw
            case rel => exact ⟨h + 1, r, by go_num, rfl, unhide LN, unhide RQ, unhide UQ⟩
            case measure => simp [intOf]; omega
        · obtain rfl : s = r := by omega
          clear row u find hlt b1 b2 b3
          have hnl : ¬ (s : Int) < (s : Int) := by omega
          obtain ⟨q, hq⟩ : ∃ x, x = N - s := ⟨_, rfl⟩
          have f0 := unhide FIND
          have fb1 := f0.b1
          have fb3 := f0.b3
          have eE : (N : Int) - s = (q : Int) := by omega
          have kas : a ≤ s := by omega
          have ksm : s ≤ m := by omega
          have ksd : s ≤ mid := by omega
          have kqb : q ≤ b := by omega
          have kmq : m ≤ q := by omega
          have kdq : mid ≤ q := by omega
          have QE := hide (show q = mid + m - s by omega)
          have HF := hide (show Half c (fun k => f (ro s m q k)) a s mid q b from by
            rw [unhide QE]
            refine half_of (unhide UP1) (unhide UP2) kas ksm ksd (by omega) ?_
            have f1 := f0
            rw [hN] at f1
            exact f1.cut (by first | exact .inl ⟨by omega, by omega, rfl⟩ | exact .inr ⟨by omega, rfl, rfl⟩) (by omega) (by omega) h2 (by have := unhide HMID; omega))
          have RO := hide (ro_re s m q f ksm kmq)
          have SQ := hide hq
          have rgF : Rg (fun k => f (ro s m q k)) n len := (unhide RO).rg (by omega) (unhide RG)
          have RGF := hide rgF
          clear f0 fb1 fb3 hq rgF hN hp
          by_cases c1 : s < m
          · have c1' : (s : Int) < (m : Int) := by omega
            have c4' : (mid : Int) < (q : Int) := by omega
            by_cases c2 : s < mid
            · have c2' : (s : Int) < (mid : Int) := by omega
              have c3' : (m : Int) < (q : Int) := by omega
              go_wp2_with fail
              refine (rot32 g n cap s m q f _ _ (unhide ROW) c1 (by omega) (by omega) hn).mono ?_
              rintro e wt ⟨rfl, rt, ut⟩
              have RF := hide rt
              have UF := hide ((unhide UU).trans ut)
              clear rt ut
              by_cases c5 : a < s
              · have c5' : (a : Int) < (s : Int) := by omega
                go_wp2_with fail
                refine (unhide IH a s mid _ _ (by omega) (by omega) (by omega) (by omega) (unhide RF) (unhide RGF) ((unhide ASK).keep (unhide UF)) (unhide HF).l1 (unhide HF).l2).mono ?_
                rintro e wl ⟨rfl, f1, re1, up3, r1, u1⟩
                have RE1 := hide re1
                have U3 := hide up3
                have R1 := hide r1
                have UL := hide ((unhide UF).trans u1)
                clear re1 up3 r1 u1
                by_cases c6 : q < b
                · have c6' : (q : Int) < (b : Int) := by omega
                  have x1 := hide (Up.same (unhide HF).r1 (fun k x1 _ => (unhide RE1).out k (.inr x1)))
                  have x2 := hide (Up.same (unhide HF).r2 (fun k x1 _ => (unhide RE1).out k (.inr (by omega))))
                  have x3 := hide ((unhide RE1).rg (n := n) (by omega) (unhide RGF))
                  go_wp2_with fail
                  refine (unhide IH mid q b _ _ (by omega) (by omega) (by omega) h3 (unhide R1) (unhide x3) ((unhide ASK).keep (unhide UL)) (unhide x1) (unhide x2)).mono ?_
                  rintro e wr2 ⟨rfl, f2, re2, up4, r2, u2⟩
                  have RE2 := hide re2
                  have U4 := hide up4
                  have R2 := hide r2
                  have UR := hide ((unhide UL).trans u2)
                  clear re2 up4 r2 u2
                  go_wp2
                  go_end0
                  exact ⟨rfl, f2, (((unhide RO).wide kas kqb).trans ((unhide RE1).wide (Nat.le_refl _) (by omega))).trans ((unhide RE2).wide (by omega) (Nat.le_refl _)), up_join (unhide HF).all (unhide RE1) (unhide U3) (unhide RE2) (unhide U4), unhide R2, unhide UR⟩
                · have c6' : ¬ (q : Int) < (b : Int) := by omega
                  go_wp2
                  go_end0
                  refine ⟨rfl, _, ((unhide RO).wide kas kqb).trans ((unhide RE1).wide (Nat.le_refl _) (by omega)), up_join (unhide HF).all (unhide RE1) (unhide U3) (Re.refl mid b _) ?_, unhide R1, unhide UL⟩
                  refine Up.same (f := fun k => f (ro s m q k)) ?_ (fun k x1 _ => (unhide RE1).out k (.inr x1))
                  have ee : q = b := by omega
                  have hf := (unhide HF).r1
                  rw [ee] at hf ⊢
                  exact hf
              · have c5' : ¬ (a : Int) < (s : Int) := by omega
                have RE1 := hide (Re.refl a mid (fun k => f (ro s m q k)))
                have U3 := hide (show Up c (fun k => f (ro s m q k)) a mid from by
                  have ee : s = a := by omega
                  have hf := (unhide HF).l2
                  rw [ee] at hf ⊢
                  exact hf)
                have R1 := hide (unhide RF)
                have UL := hide (unhide UF)
                by_cases c6 : q < b
                · have c6' : (q : Int) < (b : Int) := by omega
                  have x1 := hide (Up.same (unhide HF).r1 (fun k x1 _ => (unhide RE1).out k (.inr x1)))
                  have x2 := hide (Up.same (unhide HF).r2 (fun k x1 _ => (unhide RE1).out k (.inr (by omega))))
                  have x3 := hide ((unhide RE1).rg (n := n) (by omega) (unhide RGF))
                  go_wp2_with fail
                  refine (unhide IH mid q b _ _ (by omega) (by omega) (by omega) h3 (unhide R1) (unhide x3) ((unhide ASK).keep (unhide UL)) (unhide x1) (unhide x2)).mono ?_
                  rintro e wr2 ⟨rfl, f2, re2, up4, r2, u2⟩
                  have RE2 := hide re2
                  have U4 := hide up4
                  have R2 := hide r2
                  have UR := hide ((unhide UL).trans u2)
                  clear re2 up4 r2 u2
                  go_wp2
                  go_end0
                  exact ⟨rfl, f2, (((unhide RO).wide kas kqb).trans ((unhide RE1).wide (Nat.le_refl _) (by omega))).trans ((unhide RE2).wide (by omega) (Nat.le_refl _)), up_join (unhide HF).all (unhide RE1) (unhide U3) (unhide RE2) (unhide U4), unhide R2, unhide UR⟩
                · have c6' : ¬ (q : Int) < (b : Int) := by omega
                  go_wp2
                  go_end0
                  refine ⟨rfl, _, ((unhide RO).wide kas kqb).trans ((unhide RE1).wide (Nat.le_refl _) (by omega)), up_join (unhide HF).all (unhide RE1) (unhide U3) (Re.refl mid b _) ?_, unhide R1, unhide UL⟩
                  refine Up.same (f := fun k => f (ro s m q k)) ?_ (fun k x1 _ => (unhide RE1).out k (.inr x1))
                  have ee : q = b := by omega
                  have hf := (unhide HF).r1
                  rw [ee] at hf ⊢
                  exact hf
            · have c2' : ¬ (s : Int) < (mid : Int) := by omega
              have c3' : ¬ (m : Int) < (q : Int) := by omega
              have c5' : (a : Int) < (s : Int) := by omega
              have c6' : (q : Int) < (b : Int) := by omega
              have RF := hide ((unhide ROW).congr (f' := fun k => f (ro s m q k)) (fun k _ => by rw [ro_same (.inr (by omega))]))
              have UF := hide (unhide UU)
              have RE1 := hide (Re.refl a mid (fun k => f (ro s m q k)))
              have U3 := hide (show Up c (fun k => f (ro s m q k)) a mid from by
                have ee : s = mid := by omega
                have hf := (unhide HF).l1
                rw [ee] at hf ⊢
                exact hf)
              have R1 := hide (unhide RF)
              have UL := hide (unhide UF)
              have x1 := hide (Up.same (unhide HF).r1 (fun k x1 _ => (unhide RE1).out k (.inr x1)))
              have x2 := hide (Up.same (unhide HF).r2 (fun k x1 _ => (unhide RE1).out k (.inr (by omega))))
              have x3 := hide ((unhide RE1).rg (n := n) (by omega) (unhide RGF))
              go_wp2_with fail
              refine (unhide IH mid q b _ _ (by omega) (by omega) (by omega) h3 (unhide R1) (unhide x3) ((unhide ASK).keep (unhide UL)) (unhide x1) (unhide x2)).mono ?_
              rintro e wr2 ⟨rfl, f2, re2, up4, r2, u2⟩
              have RE2 := hide re2
              have U4 := hide up4
              have R2 := hide r2
              have UR := hide ((unhide UL).trans u2)
              clear re2 up4 r2 u2
              go_wp2
              go_end0
              exact ⟨rfl, f2, (((unhide RO).wide kas kqb).trans ((unhide RE1).wide (Nat.le_refl _) (by omega))).trans ((unhide RE2).wide (by omega) (Nat.le_refl _)), up_join (unhide HF).all (unhide RE1) (unhide U3) (unhide RE2) (unhide U4), unhide R2, unhide UR⟩
          · have c1' : ¬ (s : Int) < (m : Int) := by omega
            have c4' : ¬ (mid : Int) < (q : Int) := by omega
            have c5' : (a : Int) < (s : Int) := by omega
            have RF := hide ((unhide ROW).congr (f' := fun k => f (ro s m q k)) (fun k _ => by rw [ro_same (.inl (by omega))]))
            have UF := hide (unhide UU)
            by_cases c2 : s < mid
            · have c2' : (s : Int) < (mid : Int) := by omega
              go_wp2_with fail
              refine (unhide IH a s mid _ _ (by omega) (by omega) (by omega) (by omega) (unhide RF) (unhide RGF) ((unhide ASK).keep (unhide UF)) (unhide HF).l1 (unhide HF).l2).mono ?_
              rintro e wl ⟨rfl, f1, re1, up3, r1, u1⟩
              have RE1 := hide re1
              have U3 := hide up3
              have R1 := hide r1
              have UL := hide ((unhide UF).trans u1)
              clear re1 up3 r1 u1
              go_wp2
              go_end0
              refine ⟨rfl, _, ((unhide RO).wide kas kqb).trans ((unhide RE1).wide (Nat.le_refl _) (by omega)), up_join (unhide HF).all (unhide RE1) (unhide U3) (Re.refl mid b _) ?_, unhide R1, unhide UL⟩
              refine Up.same (f := fun k => f (ro s m q k)) ?_ (fun k x1 _ => (unhide RE1).out k (.inr x1))
              have ee : q = mid := by omega
              have hf := (unhide HF).r2
              rw [ee] at hf ⊢
              exact hf
            · have c2' : ¬ (s : Int) < (mid : Int) := by omega
              have RE1 := hide (Re.refl a mid (fun k => f (ro s m q k)))
              have U3 := hide (show Up c (fun k => f (ro s m q k)) a mid from by
                have ee : s = mid := by omega
                have hf := (unhide HF).l1
                rw [ee] at hf ⊢
                exact hf)
              have R1 := hide (unhide RF)
              have UL := hide (unhide UF)
              go_wp2
              go_end0
              refine ⟨rfl, _, ((unhide RO).wide kas kqb).trans ((unhide RE1).wide (Nat.le_refl _) (by omega)), up_join (unhide HF).all (unhide RE1) (unhide U3) (Re.refl mid b _) ?_, unhide R1, unhide UL⟩
              refine Up.same (f := fun k => f (ro s m q k)) ?_ (fun k x1 _ => (unhide RE1).out k (.inr x1))
              have ee : q = mid := by omega
              have hf := (unhide HF).r2
              rw [ee] at hf ⊢
              exact hf
end Go.Proofs.YtgjpcjnhggcfdaaGreatDoor.ZSym

namespace Go.Proofs.YtgjpcjnhggcfdaaGreatDoor.ZStb
open Go.ChangeShapes Go.WideShapes Go.ChangeAt Go.RowKit Go.Proofs.YtgjpcjnhggcfdaaGreatDoor.Core Go.Proofs.YtgjpcjnhggcfdaaGreatDoor.Gnd Go.Proofs.YtgjpcjnhggcfdaaGreatDoor.ZSrt Go.Proofs.YtgjpcjnhggcfdaaGreatDoor.ZIns Go.Proofs.YtgjpcjnhggcfdaaGreatDoor.ZSym

/-- Each run of z places that begins from lo to hi rises; the last one may be short. -/
def Runs (c : Nat → Int) (f : Nat → Nat) (n z lo hi : Nat) : Prop := ∀ x, z ∣ x → lo ≤ x → x < hi → Up c f x (min (x + z) n)
theorem up_cut {c : Nat → Int} {f : Nat → Nat} {a b a' b' : Nat} (h : Up c f a b) (ha : a ≤ a') (hb : b' ≤ b) : Up c f a' b' := fun x y h1 h2 h3 => h x y (by omega) h2 (by omega)
theorem gap {d x y : Nat} (hx : d ∣ x) (hy : d ∣ y) (h : x < y) : x + d ≤ y := by
  obtain ⟨i, rfl⟩ := hx
  obtain ⟨j, rfl⟩ := hy
  have : i < j := by
    rcases Nat.lt_or_ge i j with h1 | h1
    · exact h1
    · have := Nat.mul_le_mul_left d h1
      omega
  have := Nat.mul_le_mul_left d this
  rw [Nat.mul_succ] at this
  exact this
theorem Runs.more {c : Nat → Int} {f f' : Nat → Nat} {n z a e : Nat} (h : Runs c f n z 0 a) (hz : z ∣ a) (ea : e ≤ a + z) (re : Re a e f f') (up : Up c f' a e) (hn : min (a + z) n ≤ e) : Runs c f' n z 0 (a + z) := fun x hx _ h2 => by
  by_cases e1 : x < a
  · have := gap hx hz e1
    exact Up.same (h x hx (Nat.zero_le _) e1) (fun k _ k2 => re.out k (.inl (by omega)))
  · have : x = a := by
      by_cases e2 : a < x
      · have := gap hz hx e2; omega
      · omega
    subst this
    exact fun i j h3 h4 h5 => up i j h3 h4 (by omega)
theorem Runs.rest {c : Nat → Int} {f f' : Nat → Nat} {n z a e hi : Nat} (h : Runs c f n z a hi) (re : Re a e f f') (hae : a ≤ e) : Runs c f' n z e hi := fun x hx h1 h2 =>
  Up.same (h x hx (by omega) h2) (fun k k1 _ => re.out k (.inr (by omega)))
set_option maxHeartbeats 4000000 in
theorem stb27 (K : Nat) (eg : ∀ args w, (callFunc K args).run Tryz.prog w = .ok (.enter K args) w) (cb : Array Value) (g n cap len : Nat) (f : Nat → Nat) (c : Nat → Int) (w : World) (hr : Row w g n f) (rg : Rg f n len) (ask : Asks K cb w g len c) (hn : n ≤ 100000) :
    Calls Tryz.prog 100 #[.slice (some ⟨g, 0, none⟩) n cap, .int .i64 n, .func (.func K) #[] cb] w fun e w' => e = .returned (.tuple #[]) ∧ ∃ f', Re 0 n f f' ∧ Up c f' 0 n ∧ Row w' g n f' ∧ Upd (fun k => k = g) w w' := by
  have RR := hide hr
  have RG := hide rg
  have ASK := hide ask
  clear hr rg ask
  go_enter Tryz.func100, Tryz.ntmps100
  go_wp2
  go_loopw [7, 8] (fun x y wr => ∃ (a : Nat) (f1 : Nat → Nat), x = .int .i64 a ∧ y = .int .i64 (a + 20 : Nat) ∧ 20 ∣ a ∧ a ≤ n ∧ Re 0 n f f1 ∧ Runs c f1 n 20 0 a ∧ Row wr g n f1 ∧ Upd (fun k => k = g) w wr) (fun x _ _ => n - (intOf x).toNat)
  case atStart => exact ⟨0, f, rfl, rfl, ⟨0, rfl⟩, Nat.zero_le _, Re.refl _ _ _, fun x _ _ h => by omega, unhide RR, Upd.refl _ w⟩
  case round =>
    obtain ⟨a, f1, rfl, rfl, hd, han, re, runs, row, u⟩ := hrel
    have RE := hide re
    have RU := hide runs
    have ROW := hide row
    have UU := hide u
    have DV := hide hd
    have RGF := hide (re.rg (Nat.le_refl _) (unhide RG))
    clear re runs row u hd
    by_cases hlt : a + 20 ≤ n
    · have hlt' : (a : Int) + 20 ≤ (n : Int) := by omega
      go_wp2_with fail
      refine (ins29 K eg cb g n cap a (a + 20) len f1 c _ (unhide ROW) (unhide RGF) ((unhide ASK).keep (unhide UU)) (by omega) hlt hn).mono ?_
      rintro e w1 ⟨rfl, f2, re2, up2, r2, u2⟩
      have RE2 := hide ((unhide RE).trans (re2.wide (Nat.zero_le _) hlt))
      have RU2 := hide ((unhide RU).more (unhide DV) (Nat.le_refl _) re2 up2 (Nat.min_le_left _ _))
      have R2 := hide r2
      have U2 := hide ((unhide UU).trans u2)
      clear re2 up2 r2 u2
      go_wp2
      go_roundw
      case rel => exact ⟨a + 20, f2, by go_num, by go_num, Nat.dvd_add (unhide DV) ⟨1, rfl⟩, hlt, unhide RE2, unhide RU2, unhide R2, unhide U2⟩
      case measure => simp [intOf]; omega
    · have hlt' : ¬ (a : Int) + 20 ≤ (n : Int) := by omega
      go_wp2_with fail
      refine (ins29 K eg cb g n cap a n len f1 c _ (unhide ROW) (unhide RGF) ((unhide ASK).keep (unhide UU)) han (Nat.le_refl _) hn).mono ?_
      rintro e w1 ⟨rfl, f2, re2, up2, r2, u2⟩
      have RE2 := hide ((unhide RE).trans (re2.wide (Nat.zero_le _) (Nat.le_refl _)))
      have RU2 := hide (show Runs c f2 n 20 0 n from fun x x1 x2 x3 => ((unhide RU).more (unhide DV) (by omega) re2 up2 (Nat.min_le_right _ _)) x x1 x2 (by omega))
      have R2 := hide r2
      have U2 := hide ((unhide UU).trans u2)
      clear re2 up2 r2 u2 RE RU ROW UU DV RGF
      go_wp2
      go_loopw [6] (fun x wi => ∃ (z : Nat) (f3 : Nat → Nat), x = .int .i64 z ∧ 20 ≤ z ∧ z ≤ 2 * n + 20 ∧ Re 0 n f f3 ∧ Runs c f3 n z 0 n ∧ Row wi g n f3 ∧ Upd (fun k => k = g) w wi) (fun x _ => n - (intOf x).toNat)
      case atStart => exact ⟨20, f2, rfl, Nat.le_refl _, by omega, unhide RE2, unhide RU2, unhide R2, unhide U2⟩
      case round =>
        obtain ⟨z, f3, rfl, hz, hzb, re3, ru3, r3, u3⟩ := hrel
        have RE3 := hide re3
        have RU3 := hide ru3
        have R3 := hide r3
        have U3 := hide u3
        clear re3 ru3 r3 u3 RE2 RU2 R2 U2
        by_cases hzn : z < n
        · have hzn' : (z : Int) < (n : Int) := by omega
          go_wp2
          go_loopw [7, 8] (fun x y wj => ∃ (a : Nat) (f4 : Nat → Nat), x = .int .i64 a ∧ y = .int .i64 (a + 2 * z : Nat) ∧ 2 * z ∣ a ∧ a ≤ n ∧ Re 0 n f f4 ∧ Runs c f4 n (2 * z) 0 a ∧ Runs c f4 n z a n ∧ Row wj g n f4 ∧ Upd (fun k => k = g) w wj) (fun x _ _ => n - (intOf x).toNat)
          case atStart => exact ⟨0, f3, rfl, by go_num, ⟨0, rfl⟩, Nat.zero_le _, unhide RE3, fun x _ _ h => by omega, unhide RU3, unhide R3, unhide U3⟩
          case round =>
            clear RE3 RU3 R3 U3
            obtain ⟨a, f4, rfl, rfl, hd, han, re, runs, rest, row, u⟩ := hrel
            have RE := hide re
            have RU := hide runs
            have RS := hide rest
            have ROW := hide row
            have UU := hide u
            have DV := hide hd
            have DZ := hide (show z ∣ a from Nat.dvd_trans ⟨2, by omega⟩ hd)
            have RGF := hide (re.rg (Nat.le_refl _) (unhide RG))
            clear re runs rest row u hd
            by_cases hlt : a + 2 * z ≤ n
            · have hlt' : (a : Int) + 2 * z ≤ (n : Int) := by omega
              go_wp2_with fail
              refine (sym30 K eg cb g n cap len c hn n a (a + z) (a + 2 * z) f4 _ (by omega) (by omega) (by omega) hlt (unhide ROW) (unhide RGF) ((unhide ASK).keep (unhide UU)) ?_ ?_).mono ?_
              · exact up_cut (unhide RS a (unhide DZ) (Nat.le_refl _) (by omega)) (Nat.le_refl _) (by omega)
              · exact up_cut (unhide RS (a + z) (Nat.dvd_add (unhide DZ) ⟨1, by omega⟩) (by omega) (by omega)) (Nat.le_refl _) (by omega)
              rintro e w2 ⟨rfl, f5, re5, up5, r5, u5⟩
              have RE5 := hide ((unhide RE).trans (re5.wide (Nat.zero_le _) hlt))
              have RU5 := hide ((unhide RU).more (unhide DV) (Nat.le_refl _) re5 up5 (Nat.min_le_left _ _))
              have RS5 := hide ((unhide RS).rest re5 (by omega))
              have R5 := hide r5
              have U5 := hide ((unhide UU).trans u5)
              clear re5 up5 r5 u5
              go_wp2
              go_roundw
              case rel => exact ⟨a + 2 * z, f5, by go_num, by go_num, Nat.dvd_add (unhide DV) ⟨1, by omega⟩, hlt, unhide RE5, unhide RU5, unhide RS5, unhide R5, unhide U5⟩
              case measure => simp [intOf]; omega
            · have hlt' : ¬ (a : Int) + 2 * z ≤ (n : Int) := by omega
              by_cases hm : a + z < n
              · have hm' : (a : Int) + z < (n : Int) := by omega
                go_wp2_with fail
                refine (sym30 K eg cb g n cap len c hn n a (a + z) n f4 _ (by omega) (by omega) hm (Nat.le_refl _) (unhide ROW) (unhide RGF) ((unhide ASK).keep (unhide UU)) ?_ ?_).mono ?_
                · exact up_cut (unhide RS a (unhide DZ) (Nat.le_refl _) (by omega)) (Nat.le_refl _) (by omega)
                · exact up_cut (unhide RS (a + z) (Nat.dvd_add (unhide DZ) ⟨1, by omega⟩) (by omega) (by omega)) (Nat.le_refl _) (by omega)
                rintro e w2 ⟨rfl, f5, re5, up5, r5, u5⟩
                have RE5 := hide ((unhide RE).trans (re5.wide (Nat.zero_le _) (Nat.le_refl _)))
                have RU5 := hide (show Runs c f5 n (2 * z) 0 n from fun x x1 x2 x3 => ((unhide RU).more (unhide DV) (by omega) re5 up5 (Nat.min_le_right _ _)) x x1 x2 (by omega))
                have R5 := hide r5
                have U5 := hide ((unhide UU).trans u5)
                clear re5 up5 r5 u5
                go_wp2
                go_roundw
                case rel => exact ⟨2 * z, f5, by go_num, by omega, by omega, unhide RE5, unhide RU5, unhide R5, unhide U5⟩
                case measure => simp [intOf]; omega
              · have hm' : ¬ (a : Int) + z < (n : Int) := by omega
                have RU5 := hide (show Runs c f4 n (2 * z) 0 n from fun x x1 x2 x3 => by
                  by_cases e1 : x < a
                  · exact unhide RU x x1 x2 e1
                  · have : x = a := by
                      by_cases e2 : a < x
                      · have := gap (unhide DV) x1 e2; omega
                      · omega
                    subst this
                    exact up_cut (unhide RS x (unhide DZ) (Nat.le_refl _) x3) (Nat.le_refl _) (by omega))
                go_wp2
                go_roundw
                case rel => exact ⟨2 * z, f4, by go_num, by omega, by omega, unhide RE, unhide RU5, unhide ROW, unhide UU⟩
                case measure => simp [intOf]; omega
        · have hzn' : ¬ (z : Int) < (n : Int) := by omega
          go_wp2
          go_end0
          refine ⟨rfl, f3, unhide RE3, ?_, unhide R3, unhide U3⟩
          by_cases h0 : 0 < n
          · exact up_cut (unhide RU3 0 ⟨0, rfl⟩ (Nat.le_refl _) h0) (Nat.le_refl _) (by omega)
          · exact fun i j _ _ _ => by omega
theorem sta21 (K : Nat) (eg : ∀ args w, (callFunc K args).run Tryz.prog w = .ok (.enter K args) w) (cb : Array Value) (g n cap len : Nat) (f : Nat → Nat) (c : Nat → Int) (w : World) (hr : Row w g n f) (rg : Rg f n len) (ask : Asks K cb w g len c) (hn : n ≤ 100000) :
    Calls Tryz.prog 96 #[.slice (some ⟨g, 0, none⟩) n cap, .func (.func K) #[] cb] w fun e w' => e = .returned (.tuple #[]) ∧ ∃ f', Re 0 n f f' ∧ Up c f' 0 n ∧ Row w' g n f' ∧ Upd (fun k => k = g) w w' := by
  have H := hide (stb27 K eg cb g n cap len f c w hr rg ask hn)
  clear hr rg ask
  go_enter Tryz.func96, Tryz.ntmps96
  go_wp2_with fail
  refine (unhide H).mono ?_
  rintro e w' ⟨rfl, h⟩
  have HH := hide h
  clear h
  go_wp2
  go_end0
  exact ⟨rfl, unhide HH⟩
end Go.Proofs.YtgjpcjnhggcfdaaGreatDoor.ZStb
