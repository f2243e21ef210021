/- Plain facts: what the lengths that size.Best answers are, place by place. Conditions: as each says. -/
import Derived.Test.YtcfnbbelbadmkaaFin
import Derived.Test.YtcfnbbelbadmkaaMath
import Derived.Test.YtcfnbbelbadmkaaTotl
namespace Go.Proofs.Ytcfnbbelbadmkaa.Use
open Go.RowKit Go.WideShapes Go.Shelf Go.ChangeShapes Go.ChangeAt
open Go.Proofs.Ytcfnbbelbadmkaa.Srt Go.Proofs.Ytcfnbbelbadmkaa.Ris Go.Proofs.Ytcfnbbelbadmkaa.Ris2 Go.Proofs.Ytcfnbbelbadmkaa.Itm Go.Proofs.Ytcfnbbelbadmkaa.Mrg Go.Proofs.Ytcfnbbelbadmkaa.Pur Go.Proofs.Ytcfnbbelbadmkaa.Spr Go.Proofs.Ytcfnbbelbadmkaa.Bst Go.Proofs.Ytcfnbbelbadmkaa.Fin Go.Proofs.Ytcfnbbelbadmkaa.Math Go.Proofs.Ytcfnbbelbadmkaa.Totl

theorem re_surj {c : Nat → Int} {n : Nat} {s : Nat → Nat} (h : Re 0 (pos c n).length (fun i => (pos c n).getD i 0) s) {x : Nat} (hx : x < n) (hc : 0 < c x) : ∃ p, p < (pos c n).length ∧ s p = x := by
  have hm := (pos_mem c x n).2 ⟨hx, hc⟩
  obtain ⟨j, hj, e⟩ := List.getElem_of_mem hm
  obtain ⟨p, q, h1, _, h3, h4⟩ := h
  have a := h3 j (Nat.zero_le _) hj
  refine ⟨q j, a.2.2.2, ?_⟩
  rw [h4, (h1 j).1]
  show (pos c n).getD j 0 = x
  rw [List.getD_eq_getElem?_getD, List.getElem?_eq_getElem hj]
  exact e
theorem sumZ_upd (g : Nat → Int) (k : Nat) : ∀ n, (k < n → sumZ g n = sumZ (fun x => if x = k then 0 else g x) n + g k) ∧ (n ≤ k → sumZ g n = sumZ (fun x => if x = k then 0 else g x) n)
  | 0 => ⟨fun h => by omega, fun _ => rfl⟩
  | n + 1 => by
    obtain ⟨h1, h2⟩ := sumZ_upd g k n
    refine ⟨fun h => ?_, fun h => ?_⟩
    · simp only [sumZ]
      by_cases e : k = n
      · subst e
        rw [h2 (Nat.le_refl _), if_pos rfl]
        omega
      · rw [h1 (by omega), if_neg (fun e2 => e e2.symm)]
        omega
    · simp only [sumZ]
      rw [h2 (by omega), if_neg (by omega)]
/-- A sum over all places is one over those that count. -/
theorem sumZ_re {s : Nat → Nat} {len : Nat} : ∀ (n : Nat) (g : Nat → Int), (∀ p, p < n → s p < len) → (∀ p q, p < n → q < n → s p = s q → p = q) → (∀ x, x < len → (∀ p, p < n → s p ≠ x) → g x = 0) → sumZ g len = sumZ (fun p => g (s p)) n
  | 0, g, _, _, h0 => by
    rw [sumZ_congr len (h := fun _ => 0) (fun k hk => h0 k hk (fun p hp => absurd hp (Nat.not_lt_zero _)))]
    exact sumZ_zero len
  | n + 1, g, hl, hi, h0 => by
    have ih := sumZ_re n (fun x => if x = s n then 0 else g x) (fun p hp => hl p (by omega)) (fun p q hp hq => hi p q (by omega) (by omega)) (fun x hx hn => by
      by_cases e : x = s n
      · rw [if_pos e]
      · show (if x = s n then 0 else g x) = 0
        rw [if_neg e]
        exact h0 x hx (fun p hp => by
          by_cases e2 : p = n
          · subst e2; exact fun h => e h.symm
          · exact hn p (by omega)))
    rw [(sumZ_upd g (s n) len).1 (hl n (by omega)), ih]
    show _ = sumZ (fun p => g (s p)) n + g (s n)
    rw [sumZ_congr n (g := fun p => if s p = s n then 0 else g (s p)) (h := fun p => g (s p)) (fun p hp => if_neg (fun e => by have := hi p n (by omega) (by omega) e; omega))]
theorem sumN_cast (g : Nat → Nat) : ∀ n, ((sumN g n : Nat) : Int) = sumZ (fun k => (g k : Int)) n
  | 0 => rfl
  | n + 1 => by rw [sumN, sumZ, Int.natCast_add, sumN_cast g n]
theorem kr_sum (M : Nat → Nat) : ∀ n, kr (fun i => (M i : Int)) n = sumN (fun x => pt2 (M x : Int)) n
  | 0 => rfl
  | n + 1 => by rw [kr, sumN, kr_sum M n]
theorem tot_sum {ca cb : Nat → Int} : ∀ n, n ≤ 4096 → (∀ k, k < n → 0 ≤ ca k * cb k ∧ ca k * cb k ≤ 1000000000000) → tot ca cb n = sumZ (fun k => ca k * cb k) n ∧ 0 ≤ sumZ (fun k => ca k * cb k) n ∧ sumZ (fun k => ca k * cb k) n ≤ n * 1000000000000
  | 0, _, _ => ⟨rfl, Int.le_refl _, by simp [sumZ]⟩
  | n + 1, hn, h => by
    obtain ⟨e, h1, h2⟩ := tot_sum n (by omega) (fun k hk => h k (by omega))
    have h3 := h n (by omega)
    simp only [tot, sumZ, e]
    generalize ca n * cb n = z at *
    generalize sumZ (fun k => ca k * cb k) n = y at *
    have e1 : wrap64 z = z := by simp [wrap64]; omega
    have e2 : wrap64 (y + z) = y + z := by simp [wrap64]; omega
    rw [e1, e2]
    exact ⟨rfl, by omega, by omega⟩
/-- The lengths of two symbols and more. -/
theorem lns_good {c : Nat → Int} {len m : Nat} {s M : Nat → Nat} (h : Lns c len m s M) (h2 : 2 ≤ (pos c len).length) (hm : 1 ≤ m) (hn : (pos c len).length ≤ 2 ^ m) :
    Good6 (pos c len).length m (fun p => c (s p)) (fun p => M (s p)) (wsum ((rowI (wts c (fun i => (s i : Int)) (pos c len).length) (m - 1)).take (2 * (pos c len).length - 2))) := by
  have g := good6 (sym_of h.re h.up) m (by rw [wts_len]; exact h2) hm (by rw [wts_len]; exact hn)
  simp only [wts_len] at g
  have e : ∀ p, p < (pos c len).length → M (s p) = sumN (fun r => if p < sprd (wts c (fun i => (s i : Int)) (pos c len).length) (m - 1) (2 * (pos c len).length - 2) r then 1 else 0) m := h.more (by omega)
  have e2 : ∀ p, p < (pos c len).length → (at_ (wts c (fun i => (s i : Int)) (pos c len).length) p).1 = c (s p) := fun p hp => by rw [wts_at _ _ _ _ hp]; rfl
  refine ⟨fun p hp => ?_, fun p q hpq hq => ?_, ?_, ?_⟩
  · rw [e p hp]; exact g.pos p hp
  · rw [e p (by omega), e q hq]; exact g.ord p q hpq hq
  · rw [← g.full]; exact sumN_congr _ (fun p hp => by rw [e p hp])
  · rw [← g.cost]; exact sumZ_congr _ (fun p hp => by rw [e p hp, e2 p hp])
theorem lns_sum {c : Nat → Int} {len m : Nat} {s M : Nat → Nat} (h : Lns c len m s M) : sumZ (fun x => c x * (M x : Int)) len = sumZ (fun p => c (s p) * (M (s p) : Int)) (pos c len).length :=
  sumZ_re _ (fun x => c x * (M x : Int)) (fun p hp => (re_pos h.re hp).1) (fun p q hp hq e => re_inj h.re hp hq e) (fun x hx hn => by rw [h.none x hx hn]; simp)
theorem lns_kr {c : Nat → Int} {len m : Nat} {s M : Nat → Nat} (h : Lns c len m s M) (h2 : 2 ≤ (pos c len).length) (hm : 1 ≤ m) (hm2 : m ≤ 15) (hn : (pos c len).length ≤ 2 ^ m) : kr (fun i => (M i : Int)) len = 32768 := by
  have g := lns_good h h2 hm hn
  have e1 : ((kr (fun i => (M i : Int)) len : Nat) : Int) = sumZ (fun p => ((pt2 (M (s p) : Int) : Nat) : Int)) (pos c len).length := by
    rw [kr_sum, sumN_cast]
    exact sumZ_re _ (fun x => ((pt2 (M x : Int) : Nat) : Int)) (fun p hp => (re_pos h.re hp).1) (fun p q hp hq e => re_inj h.re hp hq e) (fun x hx hn => by rw [h.none x hx hn]; rfl)
  rw [← sumN_cast, sumN_congr (pos c len).length (h := fun p => 2 ^ (m - M (s p)) * 2 ^ (15 - m)) (fun p hp => by
    have : 1 ≤ M (s p) ∧ M (s p) ≤ m := g.pos p hp
    unfold pt2
    rw [if_neg (by omega), ← Nat.pow_add]
    congr 1
    omega), sumN_mul, g.full, ← Nat.pow_add, show m + (15 - m) = 15 by omega] at e1
  omega
end Go.Proofs.Ytcfnbbelbadmkaa.Use
