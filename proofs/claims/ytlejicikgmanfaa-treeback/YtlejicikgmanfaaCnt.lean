/- Numbers alone: how many symbols have a code that is nought, and how many one that is nothing but ones. Conditions: complete lengths. -/
import Derived.Test.YtlejicikgmanfaaRck
namespace Go.Proofs.Ytlejicikgmanfaa.Cnt
open Go.RowKit Go.Proofs.Ytlejicikgmanfaa.Core Go.Proofs.Ytlejicikgmanfaa.Gnd Go.Proofs.Ytlejicikgmanfaa.Math

def num (P : Nat → Bool) : Nat → Nat
  | 0 => 0
  | n + 1 => num P n + if P n = true then 1 else 0
theorem num_le (P : Nat → Bool) : ∀ n, num P n ≤ n
  | 0 => Nat.le_refl _
  | n + 1 => by
    have := num_le P n
    unfold num
    split <;> omega
theorem num_yes {P : Nat → Bool} {n : Nat} (h : P n = true) : num P (n + 1) = num P n + 1 := by simp [num, h]
theorem num_no {P : Nat → Bool} {n : Nat} (h : P n = false) : num P (n + 1) = num P n := by simp [num, h]
theorem num_none {P : Nat → Bool} : ∀ n, (∀ k, k < n → P k = false) → num P n = 0
  | 0, _ => rfl
  | n + 1, h => by rw [num_no (h n (by omega)), num_none n (fun k hk => h k (by omega))]
theorem num_one {P : Nat → Bool} : ∀ n, (∃ k, k < n ∧ P k = true) → (∀ i k, i < n → k < n → P i = true → P k = true → i = k) → num P n = 1
  | 0, ⟨k, hk, _⟩, _ => by omega
  | n + 1, ⟨k, hk, hp⟩, h => by
    by_cases hn : P n = true
    · rw [num_yes hn, num_none n (fun j hj => ?_)]
      cases hj2 : P j
      · rfl
      · have := h j n (by omega) (by omega) hj2 hn
        omega
    · have hn' : P n = false := by simpa using hn
      rw [num_no hn']
      refine num_one n ⟨k, ?_, hp⟩ (fun i k hi hk => h i k (by omega) (by omega))
      by_cases e : k = n
      · subst e; exact absurd hp hn
      · omega
def isLow (c : Nat → Int) (len k : Nat) : Bool := decide (c k ≠ 0 ∧ cod c len k = 0)
def isHigh (c : Nat → Int) (len k : Nat) : Bool := decide (c k ≠ 0 ∧ cod c len k + 1 = 2 ^ (c k).toNat)
theorem low_one {c : Nat → Int} {n : Nat} (h : chk c n = 0) : num (isLow c n) n = 1 := by
  obtain ⟨hg, h1, hk⟩ := chk_zero h
  have hex : ∃ k, k < n ∧ c k ≠ 0 := by
    rcases h1 with h1 | h1
    · exact many_pos c n (by omega)
    · exact kr_pos c n (by omega)
  obtain ⟨k, hk2, hc⟩ := hex
  obtain ⟨i, hi, h2, h3⟩ := low_there hg hk2 hc
  refine num_one n ⟨i, hi, by simp [isLow, h2, h3]⟩ ?_
  intro i k hi hk p q
  simp only [isLow, decide_eq_true_eq] at p q
  by_cases e : i = k
  · exact e
  · exfalso
    have gi := hg i hi
    have gk := hg k hk
    have a1 : c i = ((c i).toNat : Int) := by omega
    have a2 : c k = ((c k).toNat : Int) := by omega
    rcases Nat.le_total (c i).toNat (c k).toNat with hle | hle
    · exact apart hg hi hk (fun h => e h.symm) _ _ a1 a2 (by omega) hle (by rw [p.2, q.2, Nat.zero_div])
    · exact apart hg hk hi e _ _ a2 a1 (by omega) hle (by rw [p.2, q.2, Nat.zero_div])
theorem ones_div {a b x : Nat} (h : x + 1 = 2 ^ b) (hab : a ≤ b) : x / 2 ^ (b - a) + 1 = 2 ^ a := by
  have h1 : 2 ^ b = 2 ^ a * 2 ^ (b - a) := by rw [← Nat.pow_add]; congr 1; omega
  have h2 : 0 < 2 ^ (b - a) := Nat.pow_pos (by omega)
  have h3 : 0 < 2 ^ a := Nat.pow_pos (by omega)
  have h4 : x / 2 ^ (b - a) = 2 ^ a - 1 := by
    rw [Nat.div_eq_iff h2]
    generalize 2 ^ a = A at *
    generalize 2 ^ (b - a) = B at *
    have : (A - 1) * B + B = A * B := by
      rw [← Nat.succ_mul]
      congr 1
      omega
    omega
  omega
theorem high_one {c : Nat → Int} {n : Nat} (h : chk c n = 0) (hm : many c n ≠ 1) : num (isHigh c n) n = 1 := by
  obtain ⟨hg, h1, hk⟩ := chk_zero h
  have hs : kr c n = 32768 := by
    rcases h1 with h1 | h1
    · exact absurd h1 hm
    · exact h1
  obtain ⟨i, m, hi, h2, h3, h4⟩ := high_there hg hs
  refine num_one n ⟨i, hi, ?_⟩ ?_
  · have : (c i).toNat = m := by omega
    simp only [isHigh, decide_eq_true_eq]
    exact ⟨by omega, by rw [this]; exact h4⟩
  · intro i k hi hk p q
    simp only [isHigh, decide_eq_true_eq] at p q
    by_cases e : i = k
    · exact e
    · exfalso
      have gi := hg i hi
      have gk := hg k hk
      have a1 : c i = ((c i).toNat : Int) := by omega
      have a2 : c k = ((c k).toNat : Int) := by omega
      rcases Nat.le_total (c i).toNat (c k).toNat with hle | hle
      · have := ones_div q.2 hle
        exact apart hg hi hk (fun h => e h.symm) _ _ a1 a2 (by omega) hle (by have := p.2; omega)
      · have := ones_div p.2 hle
        exact apart hg hk hi e _ _ a2 a1 (by omega) hle (by have := q.2; omega)
theorem pow15 (m : Nat) (h : m ≤ 15) : (1 : Int) ≤ 2 ^ m ∧ (2 : Int) ^ m ≤ 32768 ∧ ((2 ^ m : Nat) : Int) = (2 : Int) ^ m := by
  have h1 : (2 : Nat) ^ m ≤ 2 ^ 15 := Nat.pow_le_pow_right (by omega) h
  have h2 : 0 < (2 : Nat) ^ m := Nat.pow_pos (by omega)
  have h3 : ((2 ^ m : Nat) : Int) = (2 : Int) ^ m := by simp
  have h4 : (2 : Nat) ^ 15 = 32768 := by decide
  omega
theorem below_drewN {B : Nat} {a w : World} (h : Below B a w) (n : Nat) : Below B a (w.drewN n) := ⟨h.os, h.tape, h.output, h.size, h.block⟩
end Go.Proofs.Ytlejicikgmanfaa.Cnt
