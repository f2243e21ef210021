/- Contract: one call of Bits, of whatever number from 0 to 32, by the state that the reader is in. Conditions: the reader lies in memory, its bytes are few. -/
import Derived.Test.YtjdnkjolbnplaaaAns
namespace Go.Proofs.Ytjdnkjolbnplaaa.Stp
open Go.ChangeShapes Go.WideShapes Go.ChangeAt Go.RowKit Go.Proofs.Ytjdnkjolbnplaaa.Base Go.Proofs.Ytjdnkjolbnplaaa.Mem Go.Proofs.Ytjdnkjolbnplaaa.Rd Go.Proofs.Ytjdnkjolbnplaaa.New Go.Proofs.Ytjdnkjolbnplaaa.Ans

/-- The state behind a call: how many bits are read; none: it is over. -/
def stp (len : Nat) (s : Option Nat) (n : Nat) : Option Nat :=
  if n = 0 then s else match s with | some i => if i + n ≤ 8 * len then some (i + n) else none | none => none
def resV (c : Nat → Nat) (len : Nat) (s : Option Nat) (n : Nat) : Nat :=
  match s with | some i => if i + n ≤ 8 * len then val c len i n else 0 | none => 0
def resE (len : Nat) (s : Option Nat) (n : Nat) : Nat :=
  if n = 0 then 0 else match s with | some i => if i + n ≤ 8 * len then 0 else 2 | none => 2
/-- A reader in a state. -/
def At (w : World) (lo hi g : Nat) (c : Nat → Nat) (len : Nat) (s : Option Nat) : Prop :=
  lo ≤ g ∧ g < hi ∧ hi ≤ w.heap.size ∧ match s with | some i => On w lo hi g c len i | none => Off w g
theorem On.at {w : World} {lo hi g len i : Nat} {c : Nat → Nat} (h : On w lo hi g c len i) : At w lo hi g c len (some i) := by
  refine ⟨?_, ?_, ?_, h⟩ <;> (obtain ⟨_, _, _, h1, h2, h3, _⟩ := h; assumption)
theorem At.keep {S : Nat → Prop} {w w' : World} {lo hi g len : Nat} {s : Option Nat} {c : Nat → Nat} (h : At w lo hi g c len s) (u : Upd S w w') (hs : ∀ k, lo ≤ k → k < hi → ¬ S k) : At w' lo hi g c len s := by
  obtain ⟨h1, h2, h3, h4⟩ := h
  refine ⟨h1, h2, Nat.le_trans h3 u.size, ?_⟩
  cases s with
  | some i => exact On.keep h4 u hs
  | none => exact Off.keep h4 u (hs g h1 h2)
theorem On.le {w : World} {lo hi g len i : Nat} {c : Nat → Nat} (h : On w lo hi g c len i) : i ≤ 8 * len := by
  obtain ⟨_, _, _, _, _, _, h, _⟩ := h; exact h
theorem bits_step (lo hi g len n : Nat) (s : Option Nat) (c : Nat → Nat) (hc : ∀ k, c k ≤ 255) (w : World) (h : At w lo hi g c len s) (hl : len ≤ 1000000) (n1 : n ≤ 32) :
    Calls Try.prog 10 #[.pointer (some ⟨g, 0, none⟩), .int .i64 n] w fun e w' => e = .returned (.tuple #[.int .u32 (resV c len s n), .int .i64 (resE len s n)]) ∧ At w' lo hi g c len (stp len s n) ∧ Upd (fun k => k = g) w w' := by
  by_cases h0 : n = 0
  · subst h0
    refine (bits_zero g w).mono ?_
    rintro e w1 ⟨rfl, rfl⟩
    refine ⟨?_, ?_, Upd.refl _ _⟩
    · cases s with
      | none => rfl
      | some i =>
        have hi := On.le h.2.2.2
        simp [resV, resE, val, Nat.mod_one]
    · exact h
  · obtain ⟨h1, h2, h3, h4⟩ := h
    cases s with
    | none =>
      refine (bits_off g n w h4 (by omega) n1).mono ?_
      rintro e w1 ⟨rfl, o, u⟩
      refine ⟨by simp [resV, resE, h0], ?_, u⟩
      simp only [stp, h0]
      exact ⟨h1, h2, Nat.le_trans h3 u.size, o⟩
    | some i =>
      by_cases hn : i + n ≤ 8 * len
      · refine (bits_on lo hi g len i n c hc w h4 hl (by omega) n1 hn).mono ?_
        rintro e w1 ⟨rfl, o, u⟩
        refine ⟨by simp [resV, resE, h0, hn], ?_, u⟩
        simp only [stp, h0, hn]
        exact ⟨h1, h2, Nat.le_trans h3 u.size, o⟩
      · refine (bits_end lo hi g len i n c w h4 hl (by omega) n1 (by omega)).mono ?_
        rintro e w1 ⟨rfl, o, u⟩
        refine ⟨by simp [resV, resE, h0, hn], ?_, u⟩
        simp only [stp, h0, hn]
        exact ⟨h1, h2, Nat.le_trans h3 u.size, o⟩
/-- How many bits are left, in a state. -/
def leftOf (len : Nat) (s : Option Nat) : Nat := match s with | some i => 8 * len - i | none => 0
theorem left_step (lo hi g len : Nat) (s : Option Nat) (c : Nat → Nat) (w : World) (h : At w lo hi g c len s) (hl : len ≤ 1000000) :
    Calls Try.prog 12 #[.pointer (some ⟨g, 0, none⟩)] w fun e w' => e = .returned (.int .i64 (leftOf len s)) ∧ ∃ k, w' = w.drewN k := by
  cases s with
  | some i => exact left_on lo hi g len i c w h.2.2.2 hl
  | none => exact left_off g w h.2.2.2
theorem over_step (lo hi g len : Nat) (s : Option Nat) (c : Nat → Nat) (w : World) (h : At w lo hi g c len s) :
    Calls Try.prog 13 #[.pointer (some ⟨g, 0, none⟩)] w fun e w' => e = .returned (.bool s.isNone) ∧ w' = w := by
  cases s with
  | some i => exact over_on lo hi g len i c w h.2.2.2
  | none => exact over_off g w h.2.2.2
end Go.Proofs.Ytjdnkjolbnplaaa.Stp
