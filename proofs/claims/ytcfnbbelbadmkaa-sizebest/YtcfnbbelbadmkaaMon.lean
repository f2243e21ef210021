/- Plain facts: with more room lengths cost no more; lengths of as many symbols as two to some number, all alike. Conditions: as each says. -/
import Derived.Test.YtcfnbbelbadmkaaUse
namespace Go.Proofs.Ytcfnbbelbadmkaa.Mon
open Go.Proofs.Ytcfnbbelbadmkaa.Srt Go.Proofs.Ytcfnbbelbadmkaa.Ris Go.Proofs.Ytcfnbbelbadmkaa.Ris2 Go.Proofs.Ytcfnbbelbadmkaa.Itm Go.Proofs.Ytcfnbbelbadmkaa.Mrg Go.Proofs.Ytcfnbbelbadmkaa.Pur Go.Proofs.Ytcfnbbelbadmkaa.Spr Go.Proofs.Ytcfnbbelbadmkaa.Bst Go.Proofs.Ytcfnbbelbadmkaa.Fin Go.Proofs.Ytcfnbbelbadmkaa.Use

/-- How many weigh no more than v. -/
def lo (v : Int) (xs : List It) : Nat := xs.countP fun x => decide (x.1 ≤ v)
theorem lo_iff (v : Int) : ∀ (xs : List It), Ris xs → ∀ q, q < lo v xs ↔ q < xs.length ∧ (at_ xs q).1 ≤ v
  | [], _, q => by simp [lo]
  | x :: xs, h, q => by
    have ih := lo_iff v xs (fun i j h1 h2 => by
      have := h (i + 1) (j + 1) (by omega) (by simp; omega)
      rwa [at_cons, at_cons] at this)
    have e : lo v (x :: xs) = lo v xs + if x.1 ≤ v then 1 else 0 := by simp [lo, List.countP_cons]
    rw [e]
    by_cases hx : x.1 ≤ v
    · rw [if_pos hx]
      cases q with
      | zero => rw [at_head]; simp [hx]
      | succ q => rw [at_cons, List.length_cons, Nat.add_lt_add_iff_right, Nat.add_lt_add_iff_right]; exact ih q
    · rw [if_neg hx, Nat.add_zero]
      have hz : lo v xs = 0 := by
        cases e2 : lo v xs with
        | zero => rfl
        | succ k =>
          have := (ih 0).1 (by omega)
          have h3 := h 0 1 (by omega) (by simp; omega)
          rw [at_head, at_cons] at h3
          omega
      rw [hz]
      constructor
      · intro h1; omega
      · rintro ⟨h1, h2⟩
        have h3 := h.le (Nat.zero_le q) h1
        rw [at_head] at h3
        omega
/-- The second row has no fewer, and none above the first's. -/
def Dom (xs ys : List It) : Prop := ∀ v, lo v xs ≤ lo v ys
theorem Dom.at_ {xs ys : List It} (d : Dom xs ys) (hx : Ris xs) (hy : Ris ys) (q : Nat) (hq : q < xs.length) : q < ys.length ∧ (at_ ys q).1 ≤ (at_ xs q).1 := by
  have h1 := (lo_iff (Itm.at_ xs q).1 xs hx q).2 ⟨hq, Int.le_refl _⟩
  exact (lo_iff (Itm.at_ xs q).1 ys hy q).1 (Nat.lt_of_lt_of_le h1 (d _))
theorem Dom.prs {xs ys : List It} (d : Dom xs ys) (hx : Ris xs) (hy : Ris ys) : Dom (prs xs) (prs ys) := fun v => by
  cases e : lo v (Pur.prs xs) with
  | zero => exact Nat.zero_le _
  | succ k =>
    obtain ⟨h1, h2⟩ := (lo_iff v (Pur.prs xs) (ris_prs hx) k).1 (by omega)
    rw [prs_len] at h1
    rw [prs_at _ _ h1] at h2
    have a1 := d.at_ hx hy (2 * k) (by omega)
    have a2 := d.at_ hx hy (2 * k + 1) (by omega)
    refine (lo_iff v (Pur.prs ys) (ris_prs hy) k).2 ⟨by rw [prs_len]; omega, ?_⟩
    rw [prs_at _ _ (by omega)]
    simp only at h2 ⊢
    omega
theorem lo_row (S : List It) (v : Int) (i : Nat) : lo v (rowI S i) = lo v S + lo v (joi S i) := by
  rw [rowI_eq]
  unfold lo
  rw [(List.merge_perm_append leI).countP_eq, List.countP_append]
theorem row_dom {S : List It} (h : Sym S) : ∀ i, Dom (rowI S i) (rowI S (i + 1))
  | 0 => fun v => by rw [lo_row, lo_row]; show lo v S + 0 ≤ _; omega
  | i + 1 => fun v => by
    have := (row_dom h i).prs (row_ris h i) (row_ris h (i + 1)) v
    rw [lo_row, lo_row]
    show lo v S + lo v (Pur.prs (rowI S i)) ≤ lo v S + lo v (Pur.prs (rowI S (i + 1)))
    omega
theorem cost_step {S : List It} (h : Sym S) (i K : Nat) (hK : K ≤ (rowI S i).length) : wsum ((rowI S (i + 1)).take K) ≤ wsum ((rowI S i).take K) := by
  have d := row_dom h i
  have hl : K ≤ (rowI S (i + 1)).length := by
    rcases Nat.eq_zero_or_pos K with e | e
    · omega
    · have := (d.at_ (row_ris h i) (row_ris h (i + 1)) (K - 1) (by omega)).1
      omega
  have e1 := pre_sum (rowI S (i + 1)) K hl
  have e2 := pre_sum (rowI S i) K hK
  unfold pre at e1 e2
  rw [e1, e2]
  exact sumZ_le K (fun k hk => (d.at_ (row_ris h i) (row_ris h (i + 1)) k (by omega)).2)
theorem cost_mono {S : List It} (h : Sym S) (K i : Nat) (hK : K ≤ (rowI S i).length) : ∀ d, K ≤ (rowI S (i + d)).length ∧ wsum ((rowI S (i + d)).take K) ≤ wsum ((rowI S i).take K)
  | 0 => ⟨hK, Int.le_refl _⟩
  | d + 1 => by
    obtain ⟨h1, h2⟩ := cost_mono h K i hK d
    have h3 := cost_step h (i + d) K h1
    refine ⟨?_, by rw [show i + (d + 1) = i + d + 1 by omega]; omega⟩
    rcases Nat.eq_zero_or_pos K with e | e
    · omega
    · have := ((row_dom h (i + d)).at_ (row_ris h (i + d)) (row_ris h (i + d + 1)) (K - 1) (by omega)).1
      rw [show i + (d + 1) = i + d + 1 by omega]
      omega
theorem sumZ_lt {g h : Nat → Int} (p : Nat) : ∀ n, p < n → (∀ k, k < n → g k ≤ h k) → g p < h p → sumZ g n < sumZ h n
  | 0, hp, _, _ => by omega
  | n + 1, hp, hl, hlt => by
    simp only [sumZ]
    have h2 := hl n (by omega)
    by_cases e : p = n
    · subst e
      have := sumZ_le (g := g) (h := h) p (fun k hk => hl k (by omega))
      omega
    · have := sumZ_lt p n (by omega) (fun k hk => hl k (by omega)) hlt
      omega
theorem pow_line (x : Nat) : x + 1 ≤ 2 ^ x := Nat.lt_two_pow_self
/-- Complete lengths that cost no more than one length for all. -/
theorem flat {L : Nat → Nat} {m b : Nat} (hb : b ≤ m) (h1 : ∀ p, p < 2 ^ b → L p ≤ m) (full : sumN (fun p => 2 ^ (m - L p)) (2 ^ b) = 2 ^ m) (cost : sumZ (fun p => (L p : Int)) (2 ^ b) ≤ ((2 ^ b * b : Nat) : Int)) : ∀ p, p < 2 ^ b → L p = b := by
  have e2 : 2 ^ m = 2 ^ b * 2 ^ (m - b) := by rw [← Nat.pow_add]; congr 1; omega
  have line : ∀ p, p < 2 ^ b → (1 + (b : Int) - (L p : Int)) * ((2 ^ (m - b) : Nat) : Int) ≤ ((2 ^ (m - L p) : Nat) : Int) := fun p hp => by
    have hL := h1 p hp
    rcases Nat.lt_or_ge b (L p) with h | h
    · have a1 : (1 + (b : Int) - (L p : Int)) * ((2 ^ (m - b) : Nat) : Int) ≤ 0 := Int.mul_nonpos_of_nonpos_of_nonneg (by omega) (Int.natCast_nonneg _)
      exact Int.le_trans a1 (Int.natCast_nonneg _)
    · have a2 := pow_line (b - L p)
      have e3 : 2 ^ (m - L p) = 2 ^ (b - L p) * 2 ^ (m - b) := by rw [← Nat.pow_add]; congr 1; omega
      rw [e3, show (1 + (b : Int) - (L p : Int)) = ((b - L p + 1 : Nat) : Int) by omega, ← Int.natCast_mul]
      exact Int.ofNat_le.2 (Nat.mul_le_mul_right _ a2)
  have strict : ∀ p, p < 2 ^ b → b < L p → (1 + (b : Int) - (L p : Int)) * ((2 ^ (m - b) : Nat) : Int) < ((2 ^ (m - L p) : Nat) : Int) := fun p hp h => by
    have a1 : (1 + (b : Int) - (L p : Int)) * ((2 ^ (m - b) : Nat) : Int) ≤ 0 := Int.mul_nonpos_of_nonpos_of_nonneg (by omega) (Int.natCast_nonneg _)
    have a2 : 0 < 2 ^ (m - L p) := Nat.pow_pos (by omega)
    exact Int.lt_of_le_of_lt a1 (Int.ofNat_lt.2 a2)
  have sc : sumZ (fun _ => (1 + (b : Int))) (2 ^ b) = ((2 ^ b * (1 + b) : Nat) : Int) := by
    have : ∀ n, sumZ (fun _ => (1 + (b : Int))) n = ((n * (1 + b) : Nat) : Int) := fun n => by
      induction n with
      | zero => simp [sumZ]
      | succ n ih => rw [sumZ, ih, Nat.add_mul]; omega
    exact this _
  have ss : sumZ (fun p => (1 + (b : Int) - (L p : Int))) (2 ^ b) = sumZ (fun _ => (1 + (b : Int))) (2 ^ b) - sumZ (fun p => (L p : Int)) (2 ^ b) := by
    have := sumZ_add (fun p => (1 + (b : Int) - (L p : Int))) (fun p => (L p : Int)) (2 ^ b)
    rw [sumZ_congr (2 ^ b) (h := fun _ => (1 + (b : Int))) (fun k _ => by omega)] at this
    omega
  have tot : sumZ (fun p => (1 + (b : Int) - (L p : Int)) * ((2 ^ (m - b) : Nat) : Int)) (2 ^ b) = (sumZ (fun p => (1 + (b : Int) - (L p : Int))) (2 ^ b)) * ((2 ^ (m - b) : Nat) : Int) := sumZ_mul _ _ _
  have rhs : sumZ (fun p => ((2 ^ (m - L p) : Nat) : Int)) (2 ^ b) = ((2 ^ b * 2 ^ (m - b) : Nat) : Int) := by rw [← sumN_cast, full, e2]
  have ge : ((2 ^ b : Nat) : Int) ≤ sumZ (fun p => (1 + (b : Int) - (L p : Int))) (2 ^ b) := by
    rw [ss, sc, Nat.mul_add, Nat.mul_one]
    omega
  have pz : (0 : Int) < ((2 ^ (m - b) : Nat) : Int) := by
    have : 0 < 2 ^ (m - b) := Nat.pow_pos (by omega)
    omega
  have low : ∀ p, p < 2 ^ b → L p ≤ b := fun p hp => by
    rcases Nat.lt_or_ge b (L p) with h | h
    · exfalso
      have := sumZ_lt p (2 ^ b) hp line (strict p hp h)
      rw [tot, rhs, Int.natCast_mul] at this
      have := Int.lt_of_mul_lt_mul_right this (Int.le_of_lt pz)
      omega
    · exact h
  intro p hp
  rcases Nat.lt_or_ge (L p) b with h | h
  · exfalso
    have l1 := sumZ_le (g := fun p => (1 + (b : Int) - (L p : Int)) * ((2 ^ (m - b) : Nat) : Int)) (h := fun p => ((2 ^ (m - L p) : Nat) : Int)) (2 ^ b) line
    rw [tot, rhs, Int.natCast_mul] at l1
    have l2 := Int.le_of_mul_le_mul_right l1 pz
    have l3 := sumZ_lt (g := fun _ => (1 : Int)) (h := fun p => (1 + (b : Int) - (L p : Int))) p (2 ^ b) hp (fun k hk => by have := low k hk; omega) (by omega)
    have l4 : sumZ (fun _ => (1 : Int)) (2 ^ b) = ((2 ^ b : Nat) : Int) := by
      have : ∀ n, sumZ (fun _ => (1 : Int)) n = (n : Int) := fun n => by
        induction n with
        | zero => rfl
        | succ n ih => rw [sumZ, ih]; omega
      exact this _
    omega
  · have := low p hp
    omega
end Go.Proofs.Ytcfnbbelbadmkaa.Mon
