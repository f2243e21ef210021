/- Contracts: slices.swapRangeCmpFunc, slices.rotateCmpFunc. Conditions: the places lie in the row. -/
import Derived.Test.YtcfnbbelbadmkaaSrt
namespace Go.Proofs.Ytcfnbbelbadmkaa.Rot
open Go.ChangeShapes Go.WideShapes Go.ChangeAt Go.RowKit Go.Proofs.Ytcfnbbelbadmkaa.Core Go.Proofs.Ytcfnbbelbadmkaa.Gnd Go.Proofs.Ytcfnbbelbadmkaa.Srt

set_option maxHeartbeats 1000000 in
theorem swp33 (g n cap a b m : Nat) (f : Nat → Nat) (cf : Value) (w : World) (hr : Row w g n f) (h1 : a + m ≤ b) (h2 : b + m ≤ n) (hn : n ≤ 100000) :
    Calls Try.prog 33 #[.slice (some ⟨g, 0, none⟩) n cap, .int .i64 a, .int .i64 b, .int .i64 m, cf] w fun e w' => e = .returned (.tuple #[]) ∧ Row w' g n (fun k => f (sr a b m k)) ∧ Upd (fun k => k = g) w w' := by
  have RR := hide hr
  clear hr
  go_enter Try.func33, Try.ntmps33
  go_wp2
  go_loopw [10] (fun i wr => ∃ k : Nat, k ≤ m ∧ i = .int .i64 k ∧ Row wr g n (fun j => f (sr a b k j)) ∧ Upd (fun k => k = g) w wr) (fun i _ => m - (intOf i).toNat)
  case atStart => exact ⟨0, Nat.zero_le _, rfl, (unhide RR).congr (fun i _ => by rw [sr_zero]), Upd.refl _ w⟩
  case round =>
    obtain ⟨k, hk, rfl, row, u⟩ := hrel
    have ROW := hide row
    have UU := hide u
    by_cases hlt : k < m
    · have hlt' : (k : Int) < (m : Int) := by omega
      obtain ⟨c1, f1⟩ := row (a + k) (by omega)
      obtain ⟨c2, f2⟩ := row (b + k) (by omega)
      clear row u
      have EX := hide (show Row ((wr.setCell ⟨g, a + k, none⟩ (.int .i64 (f (sr a b k (b + k))))).setCell ⟨g, b + k, none⟩ (.int .i64 (f (sr a b k (a + k))))) g n (fun j => f (sr a b (k + 1) j)) from ((unhide ROW).swap (a + k) (b + k)).congr (fun i _ => by rw [sr_step a b k i (by omega)]))
      have hne : a + k ≠ b + k := by omega
      have i1 : (a : Int) + k < n := by omega
      have i2 : (b : Int) + k < n := by omega
      go_wp2
      go_region
      go_wp2
      go_roundw
      case rel =>
        exact ⟨k + 1, by omega, by go_num, unhide EX, (((unhide UU).setCell (p := ⟨g, a + k, none⟩) rfl _).setCell (p := ⟨g, b + k, none⟩) rfl _).drewN 1⟩
      case measure => simp [intOf]; omega
    · obtain rfl : k = m := by omega
      have hnl : ¬ (k : Int) < (k : Int) := by omega
      clear row u
      go_wp2
      go_end0
      exact ⟨rfl, unhide ROW, unhide UU⟩

/-- What is left to do of a turn. -/
structure Rest (a m b i j : Nat) (f f1 : Nat → Nat) : Prop where
  out : ∀ k, (k < m - i ∨ m + j ≤ k) → f1 k = f (ro a m b k)
  left : ∀ k, m - i ≤ k → k < m - i + j → f (ro a m b k) = f1 (k + i)
  right : ∀ k, m - i + j ≤ k → k < m + j → f (ro a m b k) = f1 (k - j)
theorem Rest.start (a m b : Nat) (f : Nat → Nat) (h1 : a < m) (h2 : m < b) : Rest a m b (m - a) (b - m) f f := by
  refine ⟨fun k hk => ?_, fun k hk hl => ?_, fun k hk hl => ?_⟩
  · unfold ro; rw [if_neg (by omega)]
  · unfold ro; rw [if_pos (by omega), if_pos (by omega)]
  · unfold ro; rw [if_pos (by omega), if_neg (by omega)]
theorem sr_1 {a b m k : Nat} (h : a ≤ k ∧ k < a + m) : sr a b m k = k - a + b := by unfold sr; rw [if_pos h]
theorem sr_2 {a b m k : Nat} (h : b ≤ k ∧ k < b + m) (h0 : a + m ≤ b) : sr a b m k = k - b + a := by unfold sr; rw [if_neg (by omega), if_pos h]
theorem sr_3 {a b m k : Nat} (h : ¬ (a ≤ k ∧ k < a + m)) (h0 : ¬ (b ≤ k ∧ k < b + m)) : sr a b m k = k := by unfold sr; rw [if_neg h, if_neg h0]
theorem Rest.more {a m b i j : Nat} {f f1 : Nat → Nat} (h : Rest a m b i j f f1) (hi : j < i) (hm : i ≤ m) (h0 : 0 < j) : Rest a m b (i - j) j f (fun k => f1 (sr (m - i) m j k)) := by
  refine ⟨fun k hk => ?_, fun k hk hl => ?_, fun k hk hl => ?_⟩
  · by_cases e : m - i ≤ k ∧ k < m - i + j
    · show f1 (sr (m - i) m j k) = _
      rw [sr_1 e, h.left k e.1 e.2]
      congr 1; omega
    · show f1 (sr (m - i) m j k) = _
      rw [sr_3 e (by omega), h.out k (by omega)]
  · show _ = f1 (sr (m - i) m j (k + (i - j)))
    rw [sr_2 (by omega) (by omega), h.right k (by omega) (by omega)]
    congr 1; omega
  · show _ = f1 (sr (m - i) m j (k - j))
    rw [sr_3 (by omega) (by omega), h.right k (by omega) (by omega)]
theorem Rest.less {a m b i j : Nat} {f f1 : Nat → Nat} (h : Rest a m b i j f f1) (hi : i < j) (hm : i ≤ m) (h0 : 0 < i) : Rest a m b i (j - i) f (fun k => f1 (sr (m - i) (m + j - i) i k)) := by
  refine ⟨fun k hk => ?_, fun k hk hl => ?_, fun k hk hl => ?_⟩
  · by_cases e : m + j - i ≤ k ∧ k < m + j - i + i
    · show f1 (sr (m - i) (m + j - i) i k) = _
      rw [sr_2 e (by omega), h.right k (by omega) (by omega)]
      congr 1; omega
    · show f1 (sr (m - i) (m + j - i) i k) = _
      rw [sr_3 (by omega) e, h.out k (by omega)]
  · show _ = f1 (sr (m - i) (m + j - i) i (k + i))
    rw [sr_3 (by omega) (by omega), h.left k (by omega) (by omega)]
  · show _ = f1 (sr (m - i) (m + j - i) i (k - (j - i)))
    rw [sr_1 (by omega), h.left k (by omega) (by omega)]
    congr 1; omega
theorem Rest.done {a m b i : Nat} {f f1 : Nat → Nat} (h : Rest a m b i i f f1) (hm : i ≤ m) (k : Nat) : f1 (sr (m - i) m i k) = f (ro a m b k) := by
  by_cases e : m - i ≤ k ∧ k < m - i + i
  · rw [sr_1 e, h.left k e.1 e.2]
    congr 1; omega
  · by_cases e2 : m ≤ k ∧ k < m + i
    · rw [sr_2 e2 (by omega), h.right k (by omega) (by omega)]
      congr 1; omega
    · rw [sr_3 e e2, h.out k (by omega)]
set_option maxHeartbeats 1000000 in
theorem rot32 (g n cap a m b : Nat) (f : Nat → Nat) (cf : Value) (w : World) (hr : Row w g n f) (h1 : a < m) (h2 : m < b) (h3 : b ≤ n) (hn : n ≤ 100000) :
    Calls Try.prog 32 #[.slice (some ⟨g, 0, none⟩) n cap, .int .i64 a, .int .i64 m, .int .i64 b, cf] w fun e w' => e = .returned (.tuple #[]) ∧ Row w' g n (fun k => f (ro a m b k)) ∧ Upd (fun k => k = g) w w' := by
  have RR := hide hr
  clear hr
  have e1 : (m : Int) - a = ((m - a : Nat) : Int) := by omega
  have e2 : (b : Int) - m = ((b - m : Nat) : Int) := by omega
  have ST := hide (Rest.start a m b f h1 h2)
  have b1 : m - a ≤ m := by omega
  have b2 : 0 < m - a := by omega
  have b3 : m + (b - m) = b := by omega
  have b4 : 0 < b - m := by omega
  have B := hide (And.intro b1 (And.intro b2 (And.intro b3 b4)))
  clear b1 b2 b3 b4
  go_enter Try.func32, Try.ntmps32
  go_wp2
  go_loopw [10, 11] (fun x y wr => ∃ (i j : Nat) (f1 : Nat → Nat), x = .int .i64 i ∧ y = .int .i64 j ∧ 0 < i ∧ 0 < j ∧ i ≤ m ∧ m + j ≤ b ∧ Rest a m b i j f f1 ∧ Row wr g n f1 ∧ Upd (fun k => k = g) w wr) (fun x y _ => (intOf x).toNat + (intOf y).toNat)
  case atStart =>
    obtain ⟨b1, b2, b3, b4⟩ := unhide B
    exact ⟨m - a, b - m, f, by go_num, by go_num, b2, b4, b1, by omega, unhide ST, unhide RR, Upd.refl _ w⟩
  case round =>
    obtain ⟨i, j, f1, rfl, rfl, hi, hj, him, hjb, rest, row, u⟩ := hrel
    have REST := hide rest
    have ROW := hide row
    have UU := hide u
    clear rest row u e1 e2
    have e3 : (m : Int) - i = ((m - i : Nat) : Int) := by omega
    by_cases hij : i = j
    · subst hij
      go_wp2_with fail
      refine (swp33 g n cap (m - i) m i f1 _ _ (unhide ROW) (by omega) (by omega) hn).mono ?_
      rintro e w1 ⟨rfl, r1, u1⟩
      have R1 := hide (r1.congr (fun k _ => (unhide REST).done him k))
      have U1 := hide ((unhide UU).trans u1)
      clear r1 u1
      go_wp2
      go_end0
      exact ⟨rfl, unhide R1, unhide U1⟩
    · have hne : ¬ (i : Int) = (j : Int) := by omega
      by_cases hlt : j < i
      · have hlt' : (j : Int) < (i : Int) := by omega
        have e4 : (i : Int) - j = ((i - j : Nat) : Int) := by omega
        go_wp2_with fail
        refine (swp33 g n cap (m - i) m j f1 _ _ (unhide ROW) (by omega) (by omega) hn).mono ?_
        rintro e w1 ⟨rfl, r1, u1⟩
        have R1 := hide r1
        have U1 := hide ((unhide UU).trans u1)
        clear r1 u1
        go_wp2
        go_roundw
        case rel => exact ⟨i - j, j, _, by go_num, rfl, by omega, hj, by omega, hjb, (unhide REST).more hlt him hj, unhide R1, unhide U1⟩
        case measure => simp [intOf]; omega
      · have hlt' : ¬ (j : Int) < (i : Int) := by omega
        have e4 : (j : Int) - i = ((j - i : Nat) : Int) := by omega
        have e5 : (m : Int) + j - i = ((m + j - i : Nat) : Int) := by omega
        go_wp2_with fail
        refine (swp33 g n cap (m - i) (m + j - i) i f1 _ _ (unhide ROW) (by omega) (by omega) hn).mono ?_
        rintro e w1 ⟨rfl, r1, u1⟩
        have R1 := hide r1
        have U1 := hide ((unhide UU).trans u1)
        clear r1 u1
        go_wp2
        go_roundw
        case rel => exact ⟨i, j - i, _, rfl, by go_num, hi, by omega, him, by omega, (unhide REST).less (by omega) him hi, unhide R1, unhide U1⟩
        case measure => simp [intOf]; omega
end Go.Proofs.Ytcfnbbelbadmkaa.Rot
