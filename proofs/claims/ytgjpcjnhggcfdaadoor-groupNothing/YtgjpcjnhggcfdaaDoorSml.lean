/- Numbers alone: lengths of which one or two are not 0; a row of numbers as a slice. Conditions: as each says. -/
import Derived.Test.YtgjpcjnhggcfdaaDoorTrr
namespace Go.Proofs.YtgjpcjnhggcfdaaDoor.Sml
open Go.ChangeShapes Go.WideShapes Go.ChangeAt Go.RowKit Go.Proofs.YtgjpcjnhggcfdaaDoor.Core Go.Proofs.YtgjpcjnhggcfdaaDoor.Gnd Go.Proofs.YtgjpcjnhggcfdaaDoor.Math Go.Proofs.YtgjpcjnhggcfdaaDoor.Dec Go.Proofs.YtgjpcjnhggcfdaaDoor.Ord

def f1 (i m k : Nat) : Nat := if k = i then m else 0
def c1 (i m k : Nat) : Int := (f1 i m k : Int)
def f2 (i j k : Nat) : Nat := if k = i ∨ k = j then 1 else 0
def c2 (i j k : Nat) : Int := (f2 i j k : Int)
theorem c1_at (i m : Nat) : c1 i m i = (m : Int) := by simp [c1, f1]
theorem c1_no (i m : Nat) {k : Nat} (h : k ≠ i) : c1 i m k = 0 := by simp [c1, f1, h]
theorem many1 (i m : Nat) (hm : m ≠ 0) : ∀ n, many (c1 i m) n = if i < n then 1 else 0
  | 0 => by simp [many]
  | n + 1 => by
    have ih := many1 i m hm n
    have hs : many (c1 i m) (n + 1) = many (c1 i m) n + if c1 i m n = 0 then 0 else 1 := rfl
    rw [hs, ih]
    by_cases e : n = i
    · subst e
      rw [c1_at, if_neg (by omega), if_neg (by omega), if_pos (by omega)]
    · rw [if_pos (c1_no i m e)]
      by_cases h : i < n
      · rw [if_pos h, if_pos (by omega)]
      · rw [if_neg h, if_neg (by omega)]
theorem sel1' (i m : Nat) (hm : m ≠ 0) : ∀ n, i < n → sel (c1 i m) n = i
  | 0, h => by omega
  | n + 1, h => by
    have hs : sel (c1 i m) (n + 1) = if c1 i m n = 0 then sel (c1 i m) n else n := rfl
    rw [hs]
    by_cases e : n = i
    · subst e
      rw [c1_at, if_neg (by omega)]
    · rw [if_pos (c1_no i m e)]
      exact sel1' i m hm n (by omega)
theorem rng1 (i m : Nat) (hm : m ≤ 15) (n : Nat) : Rng (c1 i m) n := fun k _ => by
  unfold c1 f1
  split <;> omega
theorem chk1 (i m n : Nat) (h0 : m ≠ 0) (h1 : m ≤ 15) (hi : i < n) : chk (c1 i m) n = 0 := by
  unfold chk
  rw [if_pos ((rngB_iff _ _).2 (rng1 i m h1 n)), if_pos (.inl (by rw [many1 i m h0 n, if_pos hi]))]
theorem c2_at (i j : Nat) {k : Nat} (h : k = i ∨ k = j) : c2 i j k = 1 := by simp [c2, f2, h]
theorem c2_no (i j : Nat) {k : Nat} (h : ¬ (k = i ∨ k = j)) : c2 i j k = 0 := by simp [c2, f2, h]
theorem kr2 (i j : Nat) (hij : i ≠ j) : ∀ n, kr (c2 i j) n = (if i < n then 16384 else 0) + (if j < n then 16384 else 0) ∧ many (c2 i j) n = (if i < n then 1 else 0) + (if j < n then 1 else 0)
  | 0 => by simp [many, kr]
  | n + 1 => by
    obtain ⟨h1, h2⟩ := kr2 i j hij n
    have s1 : kr (c2 i j) (n + 1) = kr (c2 i j) n + pt2 (c2 i j n) := rfl
    have s2 : many (c2 i j) (n + 1) = many (c2 i j) n + if c2 i j n = 0 then 0 else 1 := rfl
    rw [s1, s2, h1, h2]
    have p1 : pt2 1 = 16384 := by decide
    have p0 : pt2 0 = 0 := by decide
    by_cases e : n = i
    · rw [c2_at i j (.inl e), p1]
      have a1 : ¬ i < n := by omega
      have a2 : i < n + 1 := by omega
      by_cases hj : j < n
      · simp [a1, a2, hj, show j < n + 1 by omega]
      · simp [a1, a2, hj, show ¬ j < n + 1 by omega]
    · by_cases e2 : n = j
      · rw [c2_at i j (.inr e2), p1]
        have a1 : ¬ j < n := by omega
        have a2 : j < n + 1 := by omega
        by_cases hj : i < n
        · simp [a1, a2, hj, show i < n + 1 by omega]
        · simp [a1, a2, hj, show ¬ i < n + 1 by omega]
      · rw [c2_no i j (by omega), p0]
        by_cases hi : i < n <;> by_cases hj : j < n
        · simp [hi, hj, show i < n + 1 by omega, show j < n + 1 by omega]
        · simp [hi, hj, show i < n + 1 by omega, show ¬ j < n + 1 by omega]
        · simp [hi, hj, show ¬ i < n + 1 by omega, show j < n + 1 by omega]
        · simp [hi, hj, show ¬ i < n + 1 by omega, show ¬ j < n + 1 by omega]
theorem rng2 (i j n : Nat) : Rng (c2 i j) n := fun k _ => by
  unfold c2 f2
  split <;> omega
theorem chk2 (i j n : Nat) (hij : i ≠ j) (hi : i < n) (hj : j < n) : chk (c2 i j) n = 0 ∧ many (c2 i j) n ≠ 1 := by
  obtain ⟨h1, h2⟩ := kr2 i j hij n
  rw [if_pos hi, if_pos hj] at h1 h2
  refine ⟨?_, by omega⟩
  unfold chk
  rw [if_pos ((rngB_iff _ _).2 (rng2 i j n)), if_pos (.inr (by omega))]
theorem ints_row {w : World} {g n : Nat} {f : Nat → Nat} (h : Box w g 3 (nr f n).toArray) : Ints .i64 w (.slice (some ⟨g, 0, none⟩) n n) n (fun k => (f k : Int)) :=
  ⟨_, _, rfl, fun i hi => ⟨g, 0, rfl, by rw [h.cell, Nat.zero_add, na_at _ _ _ hi]⟩⟩
theorem row_put {w : World} {g n : Nat} {f : Nat → Nat} (h : Box w g 3 (nr f n).toArray) (i z : Nat) (zi : Int) (hz : zi = (z : Int)) (f' : Nat → Nat) (hf : ∀ k, k < n → (if k = i then z else f k) = f' k) : Box (w.setCell ⟨g, i, none⟩ (.int .i64 zi)) g 3 (nr f' n).toArray := by
  subst hz
  have := h.set i (.int .i64 z)
  rw [na_set, na_congr hf] at this
  exact this
end Go.Proofs.YtgjpcjnhggcfdaaDoor.Sml
