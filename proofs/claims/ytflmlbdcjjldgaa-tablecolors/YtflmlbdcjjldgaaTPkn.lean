/- Plain numbers: pixels packed one by one. No function of the program. No conditions. -/
import Derived.Test.YtflmlbdcjjldgaaTNum
namespace Go.Proofs.Ytflmlbdcjjldgaa.TPkn
set_option linter.unusedVariables false
open Go.ChangeShapes Go.WideShapes Go.ChangeAt Go.RowKit Go.Proofs.Ytflmlbdcjjldgaa.Core Go.Proofs.Ytflmlbdcjjldgaa.LBlk Go.Proofs.Ytflmlbdcjjldgaa.PNum Go.Proofs.Ytflmlbdcjjldgaa.TNum

/-- Where the pixels of the packed one j begin. -/
def bg (W b j : Nat) : Nat := j / bl W b * W + j % bl W b * 2 ^ b
/-- The numbers of its pixels. -/
def nf (t : Nat → Nat) (n : Nat) (z : Nat → Nat) (W b j k : Nat) : Nat := nm t n (z (bg W b j + k))
/-- The green of the packed one j, once i pixels are packed. -/
def pg (t : Nat → Nat) (n : Nat) (z : Nat → Nat) (W b i j : Nat) : Nat := gs (nf t n z W b j) W (sz b) (j % bl W b * 2 ^ b) (min (2 ^ b) (i - bg W b j))
def pk (t : Nat → Nat) (n : Nat) (z : Nat → Nat) (W b i j : Nat) : Nat := 4278190080 + 256 * pg t n z W b i j
/-- The packed one j, all packed. -/
def gw (t : Nat → Nat) (n : Nat) (z : Nat → Nat) (W b j : Nat) : Nat := gs (nf t n z W b j) W (sz b) (j % bl W b * 2 ^ b) (2 ^ b)
theorem pk_start (t : Nat → Nat) (n : Nat) (z : Nat → Nat) (W b j : Nat) : pk t n z W b 0 j = 4278190080 := by
  unfold pk pg
  rw [Nat.zero_sub, Nat.min_eq_right (Nat.zero_le _)]
  rfl
theorem at_div {W y X : Nat} (hX : X < W) : (y * W + X) / W = y ∧ (y * W + X) % W = X := by
  have h0 : 0 < W := by omega
  refine ⟨?_, ?_⟩
  · rw [Nat.mul_comm, Nat.mul_add_div h0, Nat.div_eq_of_lt hX, Nat.add_zero]
  · rw [Nat.mul_comm, Nat.mul_add_mod, Nat.mod_eq_of_lt hX]
theorem div_uniq {W a b x y : Nat} (ha : x < W) (hb : y < W) (e : a * W + x = b * W + y) : a = b ∧ x = y := by
  have h1 := (at_div (y := a) ha).1
  have h2 := (at_div (y := b) hb).1
  rw [e, h2] at h1
  subst h1
  omega
variable {t : Nat → Nat} {n : Nat} {z : Nat → Nat} {W b x y : Nat}
theorem bg_at (hx : x < W) : bg W b (y * bl W b + x / 2 ^ b) = y * W + (x - x % 2 ^ b) ∧ (y * bl W b + x / 2 ^ b) % bl W b * 2 ^ b = x - x % 2 ^ b := by
  obtain ⟨h1, h2⟩ := at_div (y := y) (in_bl b hx)
  have e : x / 2 ^ b * 2 ^ b = x - x % 2 ^ b := by have := Nat.div_add_mod x (2 ^ b); rw [Nat.mul_comm] at this; omega
  unfold bg
  rw [h1, h2, e]
  exact ⟨rfl, rfl⟩
theorem pg_at (hx : x < W) : pg t n z W b (y * W + x) (y * bl W b + x / 2 ^ b) = gs (nf t n z W b (y * bl W b + x / 2 ^ b)) W (sz b) (x - x % 2 ^ b) (x % 2 ^ b) ∧
    pg t n z W b (y * W + x + 1) (y * bl W b + x / 2 ^ b) = gs (nf t n z W b (y * bl W b + x / 2 ^ b)) W (sz b) (x - x % 2 ^ b) (x % 2 ^ b + 1) := by
  obtain ⟨h1, h2⟩ := bg_at (b := b) (y := y) hx
  have hm : x % 2 ^ b < 2 ^ b := Nat.mod_lt _ (Nat.two_pow_pos b)
  have hl : x % 2 ^ b ≤ x := Nat.mod_le _ _
  unfold pg
  rw [h1, h2, show min (2 ^ b) (y * W + x - (y * W + (x - x % 2 ^ b))) = x % 2 ^ b by omega, show min (2 ^ b) (y * W + x + 1 - (y * W + (x - x % 2 ^ b))) = x % 2 ^ b + 1 by omega]
  exact ⟨rfl, rfl⟩
theorem nf_at (hx : x < W) : nf t n z W b (y * bl W b + x / 2 ^ b) (x % 2 ^ b) = nm t n (z (y * W + x)) := by
  have hl : x % 2 ^ b ≤ x := Nat.mod_le _ _
  unfold nf
  rw [(bg_at hx).1, show y * W + (x - x % 2 ^ b) + x % 2 ^ b = y * W + x by omega]
theorem pg_hit (hx : x < W) : pg t n z W b (y * W + x + 1) (y * bl W b + x / 2 ^ b) = pg t n z W b (y * W + x) (y * bl W b + x / 2 ^ b) + nm t n (z (y * W + x)) * 2 ^ (x % 2 ^ b * sz b) := by
  obtain ⟨h1, h2⟩ := pg_at (t := t) (n := n) (z := z) (b := b) (y := y) hx
  have hl : x % 2 ^ b ≤ x := Nat.mod_le _ _
  rw [h1, h2, gs_succ, tm, if_pos (by omega), nf_at hx, Nat.mul_comm (sz b)]
theorem pg_miss {j : Nat} (hx : x < W) (hj : j ≠ y * bl W b + x / 2 ^ b) : pg t n z W b (y * W + x + 1) j = pg t n z W b (y * W + x) j := by
  have hp := Nat.two_pow_pos b
  unfold pg
  by_cases h1 : bg W b j ≤ y * W + x ∧ y * W + x < bg W b j + 2 ^ b
  · obtain ⟨k, hk⟩ : ∃ k, y * W + x = bg W b j + k := ⟨y * W + x - bg W b j, by omega⟩
    rw [show min (2 ^ b) (y * W + x + 1 - bg W b j) = k + 1 by omega, show min (2 ^ b) (y * W + x - bg W b j) = k by omega, gs_succ, tm, if_neg, Nat.add_zero]
    intro hw
    apply hj
    have e : j / bl W b * W + (j % bl W b * 2 ^ b + k) = y * W + x := by rw [hk]; unfold bg; omega
    obtain ⟨e1, e2⟩ := div_uniq hw hx e
    have e3 : j % bl W b = x / 2 ^ b := by rw [← e2, Nat.mul_comm, Nat.mul_add_div hp, Nat.div_eq_of_lt (by omega), Nat.add_zero]
    rw [← e1, ← e3, Nat.mul_comm]
    exact (Nat.div_add_mod j (bl W b)).symm
  · by_cases h2 : y * W + x < bg W b j
    · rw [show min (2 ^ b) (y * W + x + 1 - bg W b j) = 0 by omega, show min (2 ^ b) (y * W + x - bg W b j) = 0 by omega]
    · rw [show min (2 ^ b) (y * W + x + 1 - bg W b j) = 2 ^ b by omega, show min (2 ^ b) (y * W + x - bg W b j) = 2 ^ b by omega]
theorem nf_fits {j : Nat} (hn : n ≤ 256) (h : nm t n (z (bg W (bv n) j + x)) < n) : nf t n z W (bv n) j x < 2 ^ sz (bv n) := num_fits hn h
theorem pg_lt (hx : x < W) (hf : ∀ k, k < x % 2 ^ b → nf t n z W b (y * bl W b + x / 2 ^ b) k < 2 ^ sz b) : pg t n z W b (y * W + x) (y * bl W b + x / 2 ^ b) < 2 ^ (x % 2 ^ b * sz b) := by
  rw [(pg_at hx).1, Nat.mul_comm (x % 2 ^ b)]
  exact gs_lt fun k hk _ => hf k hk
theorem pg_end {H j : Nat} (h0 : 0 < W) (hj : j < bl W b * H) : pg t n z W b (W * H) j = gw t n z W b j := by
  unfold pg gw
  have hw := bl_pos b h0
  have hy : j / bl W b < H := by rw [Nat.div_lt_iff_lt_mul hw, Nat.mul_comm]; exact hj
  have h1 : (j / bl W b + 1) * W ≤ H * W := Nat.mul_le_mul_right _ hy
  rw [Nat.add_mul, Nat.mul_comm H] at h1
  by_cases h : 2 ^ b ≤ W * H - bg W b j
  · rw [Nat.min_eq_left h]
  · rw [Nat.min_eq_right (by omega)]
    exact (gs_cut (by unfold bg at *; omega) (by omega)).symm
theorem low_or {G v l : Nat} (hG : G < 2 ^ l) : 256 * G ||| v * 2 ^ l * 256 = 256 * (G + v * 2 ^ l) := by
  have e : v * 2 ^ l * 256 = 2 ^ (l + 8) * v := by
    rw [Nat.pow_add, show 2 ^ 8 = 256 from rfl, Nat.mul_assoc, Nat.mul_comm v]
  have h : 256 * G < 2 ^ (l + 8) := by
    rw [Nat.pow_add, show 2 ^ 8 = 256 from rfl]
    generalize 2 ^ l = q at *
    omega
  rw [Nat.or_comm, e, ← Nat.two_pow_add_eq_or_of_lt h, ← e, Nat.mul_add, Nat.add_comm, Nat.mul_comm 256 (v * 2 ^ l)]
theorem top_or {q : Nat} (hq : q < 16777216) : 4278190080 + q = 4278190080 ||| q := (nat_join 24 4278190080 q (by decide) hq).symm
set_option maxRecDepth 100000 in
/-- One number more in the green. -/
theorem or_low {G v l V : Nat} (hl : l ≤ 7) (hG : G < 2 ^ l) (hV : v * 2 ^ l = V) (hv : V < 256) : bits .or .u32 ((4278190080 + 256 * G : Nat) : Int) ((((0 * 256 + 0) * 256 + V) * 256 + 0 : Nat) : Int) = ((4278190080 + 256 * (G + V) : Nat) : Int) := by
  have hp : 2 ^ l ≤ 128 := Nat.pow_le_pow_right (j := 7) (by omega) hl
  have e1 := low_or (v := v) hG
  rw [hV] at e1
  have hG2 : G < 128 := Nat.lt_of_lt_of_le hG hp
  rw [u32_or _ _ (by omega) (by omega) (by omega) (by omega), Int.toNat_natCast, Int.toNat_natCast, top_or (q := 256 * G) (by omega), top_or (q := 256 * (G + V)) (by omega), ← e1, Nat.or_assoc]
  rw [show ((0 * 256 + 0) * 256 + V) * 256 + 0 = V * 256 by omega]
end Go.Proofs.Ytflmlbdcjjldgaa.TPkn
