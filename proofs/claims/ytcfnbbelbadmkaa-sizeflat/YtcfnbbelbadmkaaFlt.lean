/- Plain facts: the lengths of symbols that are all alike. Conditions: as each says. -/
import Derived.Test.YtcfnbbelbadmkaaGth
namespace Go.Proofs.Ytcfnbbelbadmkaa.Flt
open Go.Proofs.Ytcfnbbelbadmkaa.Srt Go.Proofs.Ytcfnbbelbadmkaa.Ris Go.Proofs.Ytcfnbbelbadmkaa.Itm Go.Proofs.Ytcfnbbelbadmkaa.Pur Go.Proofs.Ytcfnbbelbadmkaa.Spr Go.Proofs.Ytcfnbbelbadmkaa.Bst Go.Proofs.Ytcfnbbelbadmkaa.Fin Go.Proofs.Ytcfnbbelbadmkaa.Use Go.Proofs.Ytcfnbbelbadmkaa.Mon

theorem pos_all {c : Nat → Int} : ∀ n, (∀ x, x < n → 0 < c x) → (pos c n).length = n
  | 0, _ => rfl
  | n + 1, h => by
    have := pos_all n (fun x hx => h x (by omega))
    show (if 0 < c n then _ else _ : List Nat).length = _
    rw [if_pos (h n (by omega)), List.length_append, this]
    rfl
theorem sum_const (v : Int) : ∀ n, sumZ (fun _ => v) n = (n : Int) * v
  | 0 => by simp [sumZ]
  | n + 1 => by rw [sumZ, sum_const v n, Int.natCast_add, Int.add_mul]; simp
theorem flat_lens {v : Int} (hv : 0 < v) {b m : Nat} {s M : Nat → Nat} (hb : 1 ≤ b) (hbm : b ≤ m) (h : Lns (fun _ => v) (2 ^ b) m s M) : ∀ x, x < 2 ^ b → M x = b := by
  have hl : (pos (fun _ => v) (2 ^ b)).length = 2 ^ b := pos_all _ (fun _ _ => hv)
  have h2 : 2 ≤ 2 ^ b := by
    have : 2 ^ 1 ≤ 2 ^ b := Nat.pow_le_pow_right (by omega) hb
    omega
  have hp : 2 ^ b ≤ 2 ^ m := Nat.pow_le_pow_right (by omega) hbm
  have g := lns_good h (by omega) (by omega) (by omega)
  have sy := sym_of h.re h.up
  have g2 := good6 sy b (by rw [wts_len]; omega) hb (by rw [wts_len]; omega)
  have hk := row_enough (wts (fun _ => v) (fun i => (s i : Int)) (pos (fun _ => v) (2 ^ b)).length) (b - 1) (by rw [wts_len, show b - 1 + 1 = b by omega]; omega)
  have mo := (cost_mono sy _ (b - 1) hk (m - b)).2
  rw [show b - 1 + (m - b) = m - 1 by omega] at mo
  have c1 := g.cost
  have c2 := g2.cost
  simp only [wts_len] at c2 mo
  have c3 := sumZ_le (pos (fun _ => v) (2 ^ b)).length (g := fun p => (at_ (wts (fun _ => v) (fun i => (s i : Int)) (pos (fun _ => v) (2 ^ b)).length) p).1 * ((sumN (fun r => if p < sprd (wts (fun _ => v) (fun i => (s i : Int)) (pos (fun _ => v) (2 ^ b)).length) (b - 1) (2 * (pos (fun _ => v) (2 ^ b)).length - 2) r then 1 else 0) b : Nat) : Int)) (h := fun _ => v * (b : Int)) (fun k hk => by
    have e := (g2.pos k (by rw [wts_len]; exact hk)).2
    simp only [wts_len] at e
    rw [wts_at _ _ _ _ hk]
    exact Int.mul_le_mul_of_nonneg_left (by omega) (by omega))
  rw [sum_const] at c3
  have c4 : sumZ (fun p => v * (M (s p) : Int)) (pos (fun _ => v) (2 ^ b)).length ≤ ((pos (fun _ => v) (2 ^ b)).length : Int) * (v * (b : Int)) := by
    rw [c1]
    refine Int.le_trans mo ?_
    rw [← c2]
    exact c3
  have full := g.full
  have po := g.pos
  rw [hl] at c4 full po
  have c5 : sumZ (fun p => (M (s p) : Int)) (2 ^ b) ≤ ((2 ^ b * b : Nat) : Int) := by
    rw [sumZ_congr (2 ^ b) (h := fun p => (M (s p) : Int) * v) (fun k _ => Int.mul_comm _ _), sumZ_mul] at c4
    have : ((2 ^ b : Nat) : Int) * (v * (b : Int)) = ((2 ^ b * b : Nat) : Int) * v := by rw [Int.natCast_mul, Int.mul_comm v, Int.mul_assoc]
    rw [this] at c4
    exact Int.le_of_mul_le_mul_right c4 hv
  have fl := flat (L := fun p => M (s p)) hbm (fun p hp => (po p hp).2) full c5
  intro x hx
  obtain ⟨p, hp2, e⟩ := re_surj h.re hx hv
  rw [hl] at hp2
  rw [← e]
  exact fl p hp2
end Go.Proofs.Ytcfnbbelbadmkaa.Flt
