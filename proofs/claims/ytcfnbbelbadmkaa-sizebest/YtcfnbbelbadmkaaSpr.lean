/- Plain facts: how many symbols are taken of each row; what they cost, how wide they are. Conditions: as each says. -/
import Derived.Test.YtcfnbbelbadmkaaPur
namespace Go.Proofs.Ytcfnbbelbadmkaa.Spr
open Go.Proofs.Ytcfnbbelbadmkaa.Itm Go.Proofs.Ytcfnbbelbadmkaa.Mrg Go.Proofs.Ytcfnbbelbadmkaa.Pur

def sumN (g : Nat → Nat) : Nat → Nat
  | 0 => 0
  | n + 1 => sumN g n + g n
def sumZ (g : Nat → Int) : Nat → Int
  | 0 => 0
  | n + 1 => sumZ g n + g n
theorem sumN_congr {g h : Nat → Nat} : ∀ n, (∀ k, k < n → g k = h k) → sumN g n = sumN h n
  | 0, _ => rfl
  | n + 1, e => by rw [sumN, sumN, sumN_congr n (fun k hk => e k (by omega)), e n (by omega)]
theorem sumZ_congr {g h : Nat → Int} : ∀ n, (∀ k, k < n → g k = h k) → sumZ g n = sumZ h n
  | 0, _ => rfl
  | n + 1, e => by rw [sumZ, sumZ, sumZ_congr n (fun k hk => e k (by omega)), e n (by omega)]
/-- How many symbols are taken of row r, where the first k of row i are taken. -/
def sprd (S : List It) : Nat → Nat → Nat → Nat
  | 0, k, _ => tk S 0 k
  | i + 1, k, r => if r = i + 1 then tk S (i + 1) k else sprd S i (2 * (k - tk S (i + 1) k)) r
theorem sprd_top (S : List It) (i k : Nat) : sprd S i k i = tk S i k := by
  cases i with
  | zero => rfl
  | succ i => unfold sprd; rw [if_pos rfl]
theorem sprd_low (S : List It) (i k r : Nat) (h : r ≤ i) : sprd S (i + 1) k r = sprd S i (2 * (k - tk S (i + 1) k)) r := by
  show (if r = i + 1 then _ else _) = _
  rw [if_neg (by omega)]
theorem next_ok {S : List It} (h : Sym S) (i k : Nat) (hk : k ≤ (rowI S (i + 1)).length) : 2 * (k - tk S (i + 1) k) ≤ (rowI S i).length := by
  have := (row_take h (i + 1) k hk).2.2.1
  rw [joi_len] at this
  omega
def pre (S : List It) (t : Nat) : Int := wsum (S.take t)
theorem wsum_perm {xs ys : List It} (h : xs.Perm ys) : wsum xs = wsum ys := by
  unfold wsum
  have h1 := h.map (·.1)
  generalize xs.map (·.1) = a at h1
  generalize ys.map (·.1) = b at h1
  clear h
  induction h1 with
  | nil => rfl
  | cons x _ ih => simp [ih]
  | swap x y l => simp; omega
  | trans _ _ ih1 ih2 => exact ih1.trans ih2
theorem tk_zero {S : List It} (h : Sym S) (k : Nat) (hk : k ≤ S.length) : tk S 0 k = k := by
  obtain ⟨h1, h2, h3, _⟩ := row_take h 0 k hk
  simp [joi] at h3
  omega
theorem spr_cost {S : List It} (h : Sym S) : ∀ (i k : Nat), k ≤ (rowI S i).length → wsum ((rowI S i).take k) = sumZ (fun r => pre S (sprd S i k r)) (i + 1)
  | 0, k, hk => by
    have h1 := (row_take h 0 k hk).2.2.2.1
    have h2 := wsum_perm h1
    rw [tk_zero h k hk] at h2
    simp only [joi, List.take_nil, List.append_nil] at h2
    show _ = 0 + pre S (sprd S 0 k 0)
    rw [sprd_top, tk_zero h k hk, h2]
    simp [pre]
  | i + 1, k, hk => by
    obtain ⟨h1, h2, h3, h4, _⟩ := row_take h (i + 1) k hk
    have h5 := wsum_perm h4
    rw [wsum_app] at h5
    have h6 : wsum ((joi S (i + 1)).take (k - tk S (i + 1) k)) = wsum ((rowI S i).take (2 * (k - tk S (i + 1) k))) := prs_take _ _ (by rw [joi_len] at h3; exact h3)
    rw [h6, spr_cost h i _ (next_ok h i k hk)] at h5
    show _ = sumZ _ (i + 1) + pre S (sprd S (i + 1) k (i + 1))
    rw [sprd_top, h5, sumZ_congr (g := fun r => pre S (sprd S (i + 1) k r)) (h := fun r => pre S (sprd S i (2 * (k - tk S (i + 1) k)) r)) (i + 1) (fun r hr => by rw [sprd_low _ _ _ _ (by omega)])]
    show pre S _ + _ = _
    omega
theorem spr_le {S : List It} (h : Sym S) : ∀ (i k r : Nat), k ≤ (rowI S i).length → r ≤ i → sprd S i k r ≤ S.length
  | 0, k, r, hk, _ => (row_take h 0 k hk).1
  | i + 1, k, r, hk, hr => by
    by_cases e : r = i + 1
    · subst e
      rw [sprd_top]
      exact (row_take h (i + 1) k hk).1
    · rw [sprd_low _ _ _ _ (by omega)]
      exact spr_le h i _ r (next_ok h i k hk) (by omega)
theorem spr_wide {S : List It} (h : Sym S) : ∀ (i k : Nat), k ≤ (rowI S i).length → sumN (fun r => sprd S i k r * 2 ^ r) (i + 1) = k * 2 ^ i
  | 0, k, hk => by
    show 0 + sprd S 0 k 0 * 2 ^ 0 = _
    rw [sprd_top, tk_zero h k hk]
    simp
  | i + 1, k, hk => by
    show sumN _ (i + 1) + sprd S (i + 1) k (i + 1) * 2 ^ (i + 1) = _
    rw [sprd_top, sumN_congr (g := fun r => sprd S (i + 1) k r * 2 ^ r) (h := fun r => sprd S i (2 * (k - tk S (i + 1) k)) r * 2 ^ r) (i + 1) (fun r hr => by rw [sprd_low _ _ _ _ (by omega)]), spr_wide h i _ (next_ok h i k hk)]
    have h2 := (row_take h (i + 1) k hk).2.1
    generalize tk S (i + 1) k = t at *
    obtain ⟨j, rfl⟩ : ∃ j, k = t + j := ⟨k - t, by omega⟩
    rw [show t + j - t = j by omega, Nat.pow_succ, Nat.add_mul]
    have e1 : 2 * j * 2 ^ i = j * (2 ^ i * 2) := by rw [Nat.mul_comm 2 j, Nat.mul_assoc, Nat.mul_comm 2]
    omega
/-- The symbols that are taken of a row are taken of the next one, too. -/
theorem tk_step {S : List It} (h : Sym S) (i k : Nat) (hk : k ≤ (rowI S (i + 1)).length) : tk S i (2 * (k - tk S (i + 1) k)) ≤ tk S (i + 1) k := by
  obtain ⟨h1, h2, h3, h4, h5⟩ := row_take h (i + 1) k hk
  have hn := next_ok h i k hk
  obtain ⟨g1, g2, g3, g4, _⟩ := row_take h i _ hn
  generalize ht : tk S (i + 1) k = t at *
  generalize hu : tk S i (2 * (k - t)) = u at *
  rcases Nat.lt_or_ge t u with hlt | hge
  · exfalso
    have h6 := h5 (by omega) (by omega)
    rw [joi_len] at h3
    have e := prs_at (rowI S i) (k - t - 1) (by omega)
    rw [show joi S (i + 1) = prs (rowI S i) from rfl, e] at h6
    have hmem : at_ S t ∈ (rowI S i).take (2 * (k - t)) := by
      rw [g4.mem_iff, List.mem_append]
      refine .inl ?_
      rw [at_get (by omega)]
      exact List.mem_take_iff_getElem.2 ⟨t, by omega, rfl⟩
    obtain ⟨q, hq, eq⟩ := List.mem_take_iff_getElem.1 hmem
    have hle := (row_ris h i).le (i := q) (j := 2 * (k - t - 1) + 1) (by omega) (by omega)
    rw [at_get (show q < (rowI S i).length by omega), eq] at hle
    have hp := row_pos h i _ (at_mem (show 2 * (k - t - 1) < (rowI S i).length by omega))
    simp only at h6
    omega
  · exact hge
theorem spr_mono {S : List It} (h : Sym S) : ∀ (i k r : Nat), k ≤ (rowI S i).length → r < i → sprd S i k r ≤ sprd S i k (r + 1)
  | 0, k, r, _, hr => by omega
  | i + 1, k, r, hk, hr => by
    by_cases e : r = i
    · subst e
      rw [sprd_low _ _ _ _ (Nat.le_refl _), sprd_top, sprd_top]
      exact tk_step h r k hk
    · rw [sprd_low _ _ _ _ (by omega), sprd_low _ _ _ _ (by omega)]
      exact spr_mono h i _ r (next_ok h i k hk) (by omega)
theorem row_up {S : List It} (h0 : 0 < S.length) : ∀ i, (rowI S i).length + 1 ≤ 2 * S.length
  | 0 => by show S.length + 1 ≤ _; omega
  | i + 1 => by
    have := row_up h0 i
    rw [row_len, joi_len]
    omega
theorem row_low (S : List It) (m : Nat) (hm : S.length ≤ 2 ^ m) : ∀ i, i ≤ m → 2 * S.length ≤ (rowI S i).length + 2 ^ (m - i)
  | 0, _ => by show 2 * S.length ≤ S.length + _; rw [Nat.sub_zero]; omega
  | i + 1, hi => by
    have h1 := row_low S m hm i (by omega)
    have e : 2 ^ (m - i) = 2 * 2 ^ (m - (i + 1)) := by
      rw [show m - i = m - (i + 1) + 1 by omega, Nat.pow_succ, Nat.mul_comm]
    rw [row_len, joi_len]
    generalize 2 ^ (m - (i + 1)) = z at *
    omega
/-- There are enough of them. -/
theorem row_enough (S : List It) (i : Nat) (hm : S.length ≤ 2 ^ (i + 1)) : 2 * S.length - 2 ≤ (rowI S i).length := by
  have := row_low S (i + 1) hm i (by omega)
  rw [show i + 1 - i = 1 by omega] at this
  omega
/-- Each symbol is taken. -/
theorem tk_all {S : List It} (h : Sym S) (h2 : 2 ≤ S.length) : ∀ i, 2 * S.length - 2 ≤ (rowI S i).length → tk S i (2 * S.length - 2) = S.length
  | 0, hi => by
    have : (rowI S 0).length = S.length := rfl
    rw [tk_zero h _ (by omega)]
    omega
  | i + 1, hi => by
    obtain ⟨h1, _, h3, h4, h5⟩ := row_take h (i + 1) _ hi
    have hu := row_up (S := S) (by omega) (i + 1)
    have hl : (joi S (i + 1)).length ≤ S.length - 1 := by rw [row_len] at hu; omega
    rcases Nat.lt_or_ge (tk S (i + 1) (2 * S.length - 2)) S.length with hlt | hge
    · exfalso
      have h6 := h5 hlt (by omega)
      have et : tk S (i + 1) (2 * S.length - 2) = S.length - 1 := by omega
      rw [et] at h6
      rw [joi_len] at h3 hl
      have hr : 2 * S.length - 2 ≤ (rowI S i).length := by omega
      have ih := tk_all h h2 i hr
      obtain ⟨_, _, _, g4, _⟩ := row_take h i _ hr
      rw [ih] at g4
      have hmem : at_ S (S.length - 1) ∈ (rowI S i).take (2 * S.length - 2) := by
        rw [g4.mem_iff, List.mem_append]
        refine .inl ?_
        rw [List.take_length]
        exact at_mem (by omega)
      obtain ⟨q, hq, eq⟩ := List.mem_take_iff_getElem.1 hmem
      have e := prs_at (rowI S i) (2 * S.length - 2 - (S.length - 1) - 1) (by omega)
      rw [show joi S (i + 1) = prs (rowI S i) from rfl, e] at h6
      have hle := (row_ris h i).le (i := q) (j := 2 * (2 * S.length - 2 - (S.length - 1) - 1) + 1) (by omega) (by omega)
      rw [at_get (show q < (rowI S i).length by omega), eq] at hle
      have hp := row_pos h i _ (at_mem (show 2 * (2 * S.length - 2 - (S.length - 1) - 1) < (rowI S i).length by omega))
      simp only at h6
      omega
    · omega
end Go.Proofs.Ytcfnbbelbadmkaa.Spr
