/- Plain facts: the lengths are complete, each is at least 1, and what they cost. Conditions: as each says. -/
import Derived.Test.YtcfnbbelbadmkaaBst
namespace Go.Proofs.Ytcfnbbelbadmkaa.Fin
open Go.Proofs.Ytcfnbbelbadmkaa.Srt Go.Proofs.Ytcfnbbelbadmkaa.Ris Go.Proofs.Ytcfnbbelbadmkaa.Ris2 Go.Proofs.Ytcfnbbelbadmkaa.Itm Go.Proofs.Ytcfnbbelbadmkaa.Mrg Go.Proofs.Ytcfnbbelbadmkaa.Pur Go.Proofs.Ytcfnbbelbadmkaa.Spr Go.Proofs.Ytcfnbbelbadmkaa.Bst

theorem sumN_add (g h : Nat → Nat) : ∀ n, sumN (fun k => g k + h k) n = sumN g n + sumN h n
  | 0 => rfl
  | n + 1 => by
    have := sumN_add g h n
    simp only [sumN]
    omega
theorem sumZ_add (g h : Nat → Int) : ∀ n, sumZ (fun k => g k + h k) n = sumZ g n + sumZ h n
  | 0 => rfl
  | n + 1 => by
    have := sumZ_add g h n
    simp only [sumZ]
    omega
theorem sumN_zero : ∀ n, sumN (fun _ => 0) n = 0
  | 0 => rfl
  | n + 1 => by rw [sumN, sumN_zero n]
theorem sumZ_zero : ∀ n, sumZ (fun _ => 0) n = 0
  | 0 => rfl
  | n + 1 => by rw [sumZ, sumZ_zero n]; rfl
theorem sumN_swap (f : Nat → Nat → Nat) (m : Nat) : ∀ n, sumN (fun p => sumN (fun r => f p r) m) n = sumN (fun r => sumN (fun p => f p r) n) m
  | 0 => by simp only [sumN]; rw [sumN_zero]
  | n + 1 => by
    have := sumN_swap f m n
    simp only [sumN]
    rw [this, sumN_add]
theorem sumZ_swap (f : Nat → Nat → Int) (m : Nat) : ∀ n, sumZ (fun p => sumZ (fun r => f p r) m) n = sumZ (fun r => sumZ (fun p => f p r) n) m
  | 0 => by simp only [sumZ]; rw [sumZ_zero]
  | n + 1 => by
    have := sumZ_swap f m n
    simp only [sumZ]
    rw [this, sumZ_add]
theorem sumN_ind (t x : Nat) : ∀ n, t ≤ n → sumN (fun p => if p < t then x else 0) n = t * x
  | 0, h => by
    have : t = 0 := by omega
    subst this
    simp [sumN]
  | n + 1, h => by
    by_cases e : t ≤ n
    · rw [sumN, sumN_ind t x n e, if_neg (by omega), Nat.add_zero]
    · have e2 : t = n + 1 := by omega
      have h1 := sumN_ind n x n (Nat.le_refl _)
      have h2 : sumN (fun p => if p < t then x else 0) n = sumN (fun p => if p < n then x else 0) n := sumN_congr n (fun k hk => by rw [if_pos hk, if_pos (by omega)])
      rw [sumN, h2, h1, if_pos (by omega), e2, Nat.add_mul, Nat.one_mul]
theorem sumN_mul (g : Nat → Nat) (z : Nat) : ∀ n, sumN (fun k => g k * z) n = sumN g n * z
  | 0 => by simp [sumN]
  | n + 1 => by rw [sumN, sumN, sumN_mul g z n, Nat.add_mul]
theorem sumN_le {g h : Nat → Nat} : ∀ n, (∀ k, k < n → g k ≤ h k) → sumN g n ≤ sumN h n
  | 0, _ => Nat.le_refl _
  | n + 1, e => by
    have h1 := sumN_le n (fun k hk => e k (by omega))
    have h2 := e n (by omega)
    simp only [sumN]
    omega
theorem sumZ_le {g h : Nat → Int} : ∀ n, (∀ k, k < n → g k ≤ h k) → sumZ g n ≤ sumZ h n
  | 0, _ => Int.le_refl _
  | n + 1, e => by
    have h1 := sumZ_le n (fun k hk => e k (by omega))
    have h2 := e n (by omega)
    simp only [sumZ]
    omega
theorem sumZ_mul (g : Nat → Int) (z : Int) : ∀ n, sumZ (fun k => g k * z) n = sumZ g n * z
  | 0 => by simp [sumZ]
  | n + 1 => by rw [sumZ, sumZ, sumZ_mul g z n, Int.add_mul]
/-- A row of noughts, then of ones. -/
theorem wide_one (b : Nat → Prop) (hd : ∀ r, Decidable (b r)) : ∀ m, (∀ r, r + 1 < m → b r → b (r + 1)) → sumN (fun r => if b r then 2 ^ r else 0) m + 2 ^ (m - sumN (fun r => if b r then 1 else 0) m) = 2 ^ m ∧ sumN (fun r => if b r then 1 else 0) m ≤ m
  | 0, _ => by simp [sumN]
  | m + 1, h => by
    obtain ⟨ih, ihl⟩ := wide_one b hd m (fun r hr => h r (by omega))
    by_cases e : b m
    · simp only [sumN, if_pos e]
      generalize sumN (fun r => if b r then 1 else 0) m = q at *
      rw [show m + 1 - (q + 1) = m - q by omega, Nat.pow_succ]
      omega
    · have hall : ∀ j r, r + j = m → ¬ b r := by
        intro j
        induction j with
        | zero => intro r hr; rw [show r = m by omega]; exact e
        | succ j ihj =>
          intro r hr hb
          exact ihj (r + 1) (by omega) (h r (by omega) hb)
      have z1 : sumN (fun r => if b r then 1 else 0) m = 0 := by
        rw [sumN_congr m (h := fun _ => 0) (fun k hk => if_neg (hall (m - k) k (by omega)))]
        exact sumN_zero m
      have z2 : sumN (fun r => if b r then 2 ^ r else 0) m = 0 := by
        rw [sumN_congr m (h := fun _ => 0) (fun k hk => if_neg (hall (m - k) k (by omega)))]
        exact sumN_zero m
      simp only [sumN, if_neg e, z1, z2]
      simp
/-- What may be said of the lengths, by the symbols' order. -/
structure Good6 (n m : Nat) (w : Nat → Int) (L : Nat → Nat) (cost : Int) : Prop where
  pos : ∀ p, p < n → 1 ≤ L p ∧ L p ≤ m
  ord : ∀ p q, p < q → q < n → L q ≤ L p
  full : sumN (fun p => 2 ^ (m - L p)) n = 2 ^ m
  cost : sumZ (fun p => w p * (L p : Int)) n = cost
theorem pre_sum (S : List It) : ∀ t, t ≤ S.length → pre S t = sumZ (fun p => (at_ S p).1) t
  | 0, _ => by simp [pre, sumZ, wsum]
  | t + 1, h => by
    have := pre_sum S t (by omega)
    unfold pre at *
    rw [List.take_succ_eq_append_getElem (by omega), wsum_app, this, sumZ, at_get (by omega)]
    simp [wsum]
theorem sumZ_ind (g : Nat → Int) (t : Nat) : ∀ n, t ≤ n → sumZ (fun p => if p < t then g p else 0) n = sumZ g t
  | 0, h => by
    have : t = 0 := by omega
    subst this
    rfl
  | n + 1, h => by
    by_cases e : t ≤ n
    · rw [sumZ, sumZ_ind g t n e, if_neg (by omega), Int.add_zero]
    · have e2 : t = n + 1 := by omega
      subst e2
      exact sumZ_congr _ (fun k hk => if_pos hk)
theorem good6 {S : List It} (h : Sym S) (m : Nat) (h2 : 2 ≤ S.length) (hm : 1 ≤ m) (hn : S.length ≤ 2 ^ m) :
    Good6 S.length m (fun p => (at_ S p).1) (fun p => sumN (fun r => if p < sprd S (m - 1) (2 * S.length - 2) r then 1 else 0) m) (wsum ((rowI S (m - 1)).take (2 * S.length - 2))) := by
  have hk : 2 * S.length - 2 ≤ (rowI S (m - 1)).length := row_enough S (m - 1) (by rw [show m - 1 + 1 = m by omega]; exact hn)
  have mono := fun r hr => spr_mono h (m - 1) (2 * S.length - 2) r hk hr
  have le := fun r hr => spr_le h (m - 1) (2 * S.length - 2) r hk hr
  have wide := spr_wide h (m - 1) (2 * S.length - 2) hk
  have cost := spr_cost h (m - 1) (2 * S.length - 2) hk
  have top : sprd S (m - 1) (2 * S.length - 2) (m - 1) = S.length := by rw [sprd_top]; exact tk_all h h2 (m - 1) hk
  rw [show m - 1 + 1 = m by omega] at wide cost
  generalize sprd S (m - 1) (2 * S.length - 2) = T at *
  have one := fun p => wide_one (fun r => p < T r) (fun r => Nat.decLt _ _) m (fun r hr hb => by have := mono r (by omega); omega)
  refine ⟨fun p hp => ⟨?_, (one p).2⟩, fun p q hpq hq => ?_, ?_, ?_⟩
  · obtain ⟨u, rfl⟩ : ∃ u, m = u + 1 := ⟨m - 1, by omega⟩
    rw [show u + 1 - 1 = u by omega] at top
    show 1 ≤ sumN _ u + (if p < T u then 1 else 0)
    rw [if_pos (by omega)]
    omega
  · refine sumN_le m (fun k _ => ?_)
    by_cases e : q < T k
    · rw [if_pos e, if_pos (by omega)]; exact Nat.le_refl _
    · rw [if_neg e]; exact Nat.zero_le _
  · have e1 : sumN (fun p => sumN (fun r => if p < T r then 2 ^ r else 0) m) S.length + sumN (fun p => 2 ^ (m - sumN (fun r => if p < T r then 1 else 0) m)) S.length = S.length * 2 ^ m := by
      rw [← sumN_add, sumN_congr S.length (h := fun p => if p < S.length then 2 ^ m else 0) (fun p hp => by rw [if_pos hp]; exact (one p).1)]
      exact sumN_ind _ _ _ (Nat.le_refl _)
    rw [sumN_swap, sumN_congr m (h := fun r => T r * 2 ^ r) (fun r hr => sumN_ind (T r) (2 ^ r) S.length (le r (by omega))), wide] at e1
    have e2 : 2 ^ m = 2 * 2 ^ (m - 1) := by rw [← Nat.pow_succ', show (m - 1).succ = m by omega]
    obtain ⟨u, hu⟩ : ∃ u, S.length = u + 2 := ⟨S.length - 2, by omega⟩
    have e3 : (2 * S.length - 2) * 2 ^ (m - 1) = S.length * 2 ^ m - 2 ^ m := by
      rw [e2, hu, show 2 * (u + 2) - 2 = (u + 1) * 2 by omega, Nat.mul_assoc, show u + 2 = (u + 1) + 1 by omega, Nat.add_mul (u + 1) 1]
      omega
    have e4 : 2 ^ m ≤ S.length * 2 ^ m := Nat.le_mul_of_pos_left _ (by omega)
    omega
  · rw [cost, sumZ_congr m (h := fun r => sumZ (fun p => if p < T r then (at_ S p).1 else 0) S.length) (fun r hr => by
        rw [pre_sum S _ (le r (by omega)), sumZ_ind _ _ _ (le r (by omega))]), ← sumZ_swap]
    refine sumZ_congr _ (fun p hp => ?_)
    have e5 : ∀ (a : Int) (q : Nat), a * ((sumN (fun r => if p < T r then 1 else 0) q : Nat) : Int) = sumZ (fun r => if p < T r then a else 0) q := fun a q => by
      induction q with
      | zero => simp [sumN, sumZ]
      | succ q ih =>
        rw [sumN, sumZ, ← ih]
        by_cases e : p < T q
        · rw [if_pos e, if_pos e, Int.natCast_add, Int.mul_add]; simp
        · rw [if_neg e, if_neg e]; simp
    exact e5 _ m
end Go.Proofs.Ytcfnbbelbadmkaa.Fin
