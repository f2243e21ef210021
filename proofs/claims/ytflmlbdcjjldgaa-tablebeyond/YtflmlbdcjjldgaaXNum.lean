/- Plain numbers: signed bytes, what a number adds by another one, a pixel less what hangs together, and back. No conditions. -/
import Derived.Test.YtflmlbdcjjldgaaPMsk
namespace Go.Proofs.Ytflmlbdcjjldgaa.XNum
set_option linter.unusedVariables false
open Go.Proofs.Ytflmlbdcjjldgaa.PNum Go.Proofs.Ytflmlbdcjjldgaa.PMsk

/-- A byte as a number from -128 to 127. -/
def sg (n : Nat) : Int := if n < 128 then n else (n : Int) - 256
theorem sg_lt {n : Nat} (h : n < 128) : sg n = n := if_pos h
theorem sg_ge {n : Nat} (h : ¬ n < 128) : sg n = (n : Int) - 256 := if_neg h
theorem sg_bd {n : Nat} (h : n < 256) : -128 ≤ sg n ∧ sg n ≤ 127 := by unfold sg; split <;> omega
theorem sg_zero : sg 0 = 0 := rfl
/-- A number from -128 to 127 as a byte. -/
def un (z : Int) : Nat := (z % 256).toNat
theorem un_lt (z : Int) : un z < 256 := by unfold un; omega
theorem un_cast (z : Int) : (un z : Int) = z % 256 := by unfold un; omega
theorem un_sg {n : Nat} (h : n < 256) : un (sg n) = n := by unfold un sg; split <;> omega
theorem sg_un {z : Int} (h0 : -128 ≤ z) (h1 : z ≤ 127) : sg (un z) = z := by unfold un sg; split <;> omega
theorem un_zero : un 0 = 0 := rfl
/-- A number times another one, by 32, rounded down. -/
def dl (t c : Int) : Int := t * c / 32
theorem dl_comm (t c : Int) : dl t c = dl c t := by unfold dl; rw [Int.mul_comm]
theorem dl_zero (t : Int) : dl t 0 = 0 := by unfold dl; rw [Int.mul_zero]; rfl
theorem zero_dl (t : Int) : dl 0 t = 0 := by unfold dl; rw [Int.zero_mul]; rfl
theorem mul_bd {t c : Int} (h0 : -128 ≤ t) (h1 : t ≤ 127) (h2 : -128 ≤ c) (h3 : c ≤ 127) : -16384 ≤ t * c ∧ t * c ≤ 16384 := by
  have h : (t * c).natAbs ≤ 128 * 128 := by
    rw [Int.natAbs_mul]
    exact Nat.mul_le_mul (by omega) (by omega)
  omega
theorem dl_bd {t c : Int} (h0 : -128 ≤ t) (h1 : t ≤ 127) (h2 : -128 ≤ c) (h3 : c ≤ 127) : -512 ≤ dl t c ∧ dl t c ≤ 512 := by
  have := mul_bd h0 h1 h2 h3
  unfold dl
  omega
/-- An element: what green adds to red, green to blue, red to blue. -/
structure El where
  a : Int
  b : Int
  c : Int
/-- Its numbers are from -128 to 127. -/
structure El.ok (e : El) : Prop where
  a0 : -128 ≤ e.a
  a1 : e.a ≤ 127
  b0 : -128 ≤ e.b
  b1 : e.b ≤ 127
  c0 : -128 ≤ e.c
  c1 : e.c ≤ 127
def El.zero : El := ⟨0, 0, 0⟩
theorem El.zero_ok : El.zero.ok := ⟨by decide, by decide, by decide, by decide, by decide, by decide⟩
/-- How much of red hangs together with green. -/
def rd (e : El) (g : Nat) : Nat := un (dl e.a (sg g))
/-- How much of blue hangs together with red and green. -/
def bu (e : El) (r g : Nat) : Nat := un (dl e.b (sg g) + dl e.c (sg r))
theorem rd_lt (e : El) (g : Nat) : rd e g < 256 := un_lt _
theorem bu_lt (e : El) (r g : Nat) : bu e r g < 256 := un_lt _
theorem rd_zero (g : Nat) : rd .zero g = 0 := by unfold rd El.zero; rw [zero_dl]; rfl
theorem bu_zero (r g : Nat) : bu .zero r g = 0 := by unfold bu El.zero; rw [zero_dl, zero_dl]; rfl
theorem rd_none (e : El) : rd e 0 = 0 := by unfold rd; rw [sg_zero, dl_zero]; rfl
theorem bu_none (e : El) : bu e 0 0 = 0 := by unfold bu; rw [sg_zero, dl_zero, dl_zero]; rfl
/-- The pixel of four numbers. -/
def mk4 (a b c d : Nat) : Nat := ((a * 256 + b) * 256 + c) * 256 + d
theorem mk4_lt {a b c d : Nat} (ha : a < 256) (hb : b < 256) (hc : c < 256) (hd : d < 256) : mk4 a b c d < 4294967296 := by unfold mk4; omega
theorem mk4_0 {a b c d : Nat} (ha : a < 256) (hb : b < 256) (hc : c < 256) (hd : d < 256) : pt (mk4 a b c d) 0 = a := by rw [pt_0]; unfold mk4; omega
theorem mk4_1 {a b c d : Nat} (ha : a < 256) (hb : b < 256) (hc : c < 256) (hd : d < 256) : pt (mk4 a b c d) 1 = b := by rw [pt_1]; unfold mk4; omega
theorem mk4_2 {a b c d : Nat} (ha : a < 256) (hb : b < 256) (hc : c < 256) (hd : d < 256) : pt (mk4 a b c d) 2 = c := by rw [pt_2]; unfold mk4; omega
theorem mk4_3 {a b c d : Nat} (ha : a < 256) (hb : b < 256) (hc : c < 256) (hd : d < 256) : pt (mk4 a b c d) 3 = d := by rw [pt_3]; unfold mk4; omega
theorem mk4_pt {p : Nat} (h : p < 4294967296) : mk4 (pt p 0) (pt p 1) (pt p 2) (pt p 3) = p := by
  rw [pt_0, pt_1, pt_2, pt_3]; unfold mk4; omega
/-- Red and blue less what hangs together with the others. -/
def lsV (e : El) (p : Nat) : Nat := mk4 (pt p 0) ((pt p 1 + 256 - rd e (pt p 2)) % 256) (pt p 2) ((pt p 3 + 256 - bu e (pt p 1) (pt p 2)) % 256)
/-- The way back. -/
def moV (e : El) (p : Nat) : Nat := mk4 (pt p 0) ((pt p 1 + rd e (pt p 2)) % 256) (pt p 2) ((pt p 3 + bu e ((pt p 1 + rd e (pt p 2)) % 256) (pt p 2)) % 256)
theorem md_lt (n : Nat) : n % 256 < 256 := Nat.mod_lt _ (by omega)
theorem lsV_lt (e : El) (p : Nat) : lsV e p < 4294967296 := mk4_lt (pt_lt _ _) (md_lt _) (pt_lt _ _) (md_lt _)
theorem moV_lt (e : El) (p : Nat) : moV e p < 4294967296 := mk4_lt (pt_lt _ _) (md_lt _) (pt_lt _ _) (md_lt _)
theorem ls_0 (e : El) (p : Nat) : pt (lsV e p) 0 = pt p 0 := mk4_0 (pt_lt _ _) (md_lt _) (pt_lt _ _) (md_lt _)
theorem ls_1 (e : El) (p : Nat) : pt (lsV e p) 1 = (pt p 1 + 256 - rd e (pt p 2)) % 256 := mk4_1 (pt_lt _ _) (md_lt _) (pt_lt _ _) (md_lt _)
theorem ls_2 (e : El) (p : Nat) : pt (lsV e p) 2 = pt p 2 := mk4_2 (pt_lt _ _) (md_lt _) (pt_lt _ _) (md_lt _)
theorem ls_3 (e : El) (p : Nat) : pt (lsV e p) 3 = (pt p 3 + 256 - bu e (pt p 1) (pt p 2)) % 256 := mk4_3 (pt_lt _ _) (md_lt _) (pt_lt _ _) (md_lt _)
theorem mo_0 (e : El) (p : Nat) : pt (moV e p) 0 = pt p 0 := mk4_0 (pt_lt _ _) (md_lt _) (pt_lt _ _) (md_lt _)
theorem mo_1 (e : El) (p : Nat) : pt (moV e p) 1 = (pt p 1 + rd e (pt p 2)) % 256 := mk4_1 (pt_lt _ _) (md_lt _) (pt_lt _ _) (md_lt _)
theorem mo_2 (e : El) (p : Nat) : pt (moV e p) 2 = pt p 2 := mk4_2 (pt_lt _ _) (md_lt _) (pt_lt _ _) (md_lt _)
theorem mo_3 (e : El) (p : Nat) : pt (moV e p) 3 = (pt p 3 + bu e ((pt p 1 + rd e (pt p 2)) % 256) (pt p 2)) % 256 := mk4_3 (pt_lt _ _) (md_lt _) (pt_lt _ _) (md_lt _)
theorem sub_back {a d : Nat} (ha : a < 256) (hd : d < 256) : ((a + 256 - d) % 256 + d) % 256 = a := by omega
theorem add_back {a d : Nat} (ha : a < 256) (hd : d < 256) : ((a + d) % 256 + 256 - d) % 256 = a := by omega
/-- Forth and back a pixel is itself. -/
theorem mo_ls (e : El) {p : Nat} (h : p < 4294967296) : moV e (lsV e p) = p := by
  have hr := rd_lt e (pt p 2)
  have hb := bu_lt e (pt p 1) (pt p 2)
  rw [moV, ls_0, ls_1, ls_2, ls_3, sub_back (pt_lt p 1) hr, sub_back (pt_lt p 3) hb, mk4_pt h]
theorem ls_mo (e : El) {p : Nat} (h : p < 4294967296) : lsV e (moV e p) = p := by
  have hr := rd_lt e (pt p 2)
  have hb := bu_lt e ((pt p 1 + rd e (pt p 2)) % 256) (pt p 2)
  rw [lsV, mo_0, mo_1, mo_2, mo_3, add_back (pt_lt p 1) hr, add_back (pt_lt p 3) hb, mk4_pt h]
theorem take0 {a : Nat} (h : a < 256) : (a + 256 - 0) % 256 = a := by omega
/-- An element of nothing changes nothing. -/
theorem ls_zero {p : Nat} (h : p < 4294967296) : lsV .zero p = p := by
  rw [lsV, rd_zero, bu_zero, take0 (pt_lt p 1), take0 (pt_lt p 3), mk4_pt h]
theorem mo_zero {p : Nat} (h : p < 4294967296) : moV .zero p = p := by
  rw [moV, rd_zero, bu_zero, Nat.add_zero, Nat.add_zero, Nat.mod_eq_of_lt (pt_lt p 1), Nat.mod_eq_of_lt (pt_lt p 3), mk4_pt h]
/-- Without green and red nothing changes. -/
theorem ls_none (e : El) {p : Nat} (h : p < 4294967296) (h1 : pt p 1 = 0) (h2 : pt p 2 = 0) : lsV e p = p := by
  have e0 := mk4_pt h
  rw [h1, h2] at e0
  rw [lsV, h1, h2, rd_none, bu_none, take0 (by omega), take0 (pt_lt p 3)]
  exact e0
/-- A pixel's alpha and blue alone. -/
def ab (p : Nat) : Nat := p &&& 4278190335
theorem ab_is (p : Nat) : ab p = pt p 0 * 16777216 + pt p 3 := by
  have h0 := and_one p 0
  have h3 := and_one p 3
  simp only [one, Nat.mul_zero, Nat.sub_zero, Nat.reduceMul, Nat.reduceSub, Nat.reducePow, Nat.mul_one] at h0 h3
  have h : p &&& 4278190335 = (p &&& 4278190080) ||| (p &&& 255) := by rw [← Nat.and_or_distrib_left]; rfl
  rw [ab, h, h0, h3]
  have hb := pt_lt p 3
  have := Nat.two_pow_add_eq_or_of_lt (i := 24) (b := pt p 3) (by omega) (pt p 0)
  rw [show pt p 0 * 16777216 = 2 ^ 24 * pt p 0 by omega]
  exact this.symm
theorem ab_lt (p : Nat) : ab p < 4294967296 := by have := pt_lt p 0; have := pt_lt p 3; rw [ab_is]; omega
theorem ab_1 (p : Nat) : pt (ab p) 1 = 0 := by have := pt_lt p 0; have := pt_lt p 3; rw [ab_is, pt_1]; omega
theorem ab_2 (p : Nat) : pt (ab p) 2 = 0 := by have := pt_lt p 0; have := pt_lt p 3; rw [ab_is, pt_2]; omega
theorem one_and_xor {x y k : Nat} (h : pt x k = pt y k) : (x ^^^ y) &&& (255 * 2 ^ (24 - 8 * k)) = 0 := by
  rw [Nat.and_xor_distrib_right, and_one, and_one, one_eq h, Nat.xor_self]
/-- Where alpha and green are the same, they differ in nothing. -/
theorem stays {x y : Nat} (h0 : pt x 0 = pt y 0) (h2 : pt x 2 = pt y 2) : (x ^^^ y) &&& 4278255360 = 0 := by
  have e0 := one_and_xor h0
  have e2 := one_and_xor h2
  simp only [Nat.mul_zero, Nat.sub_zero, Nat.reduceMul, Nat.reduceSub, Nat.reducePow] at e0 e2
  have h : (x ^^^ y) &&& 4278255360 = ((x ^^^ y) &&& 4278190080) ||| ((x ^^^ y) &&& 65280) := by rw [← Nat.and_or_distrib_left]; rfl
  rw [h, e0, e2]
  rfl
/-- An element as a pixel. -/
def epx (e : El) : Nat := mk4 255 (un e.c) (un e.b) (un e.a)
/-- A pixel as an element. -/
def pel (p : Nat) : El := ⟨sg (pt p 3), sg (pt p 2), sg (pt p 1)⟩
theorem epx_lt (e : El) : epx e < 4294967296 := mk4_lt (by omega) (un_lt _) (un_lt _) (un_lt _)
theorem epx_0 (e : El) : pt (epx e) 0 = 255 := mk4_0 (by omega) (un_lt _) (un_lt _) (un_lt _)
theorem pel_epx {e : El} (h : e.ok) : pel (epx e) = e := by
  have h1 : pt (epx e) 1 = un e.c := mk4_1 (by omega) (un_lt _) (un_lt _) (un_lt _)
  have h2 : pt (epx e) 2 = un e.b := mk4_2 (by omega) (un_lt _) (un_lt _) (un_lt _)
  have h3 : pt (epx e) 3 = un e.a := mk4_3 (by omega) (un_lt _) (un_lt _) (un_lt _)
  rw [pel, h1, h2, h3, sg_un h.a0 h.a1, sg_un h.b0 h.b1, sg_un h.c0 h.c1]
theorem pel_ok (p : Nat) : (pel p).ok := by
  have h1 := sg_bd (pt_lt p 1)
  have h2 := sg_bd (pt_lt p 2)
  have h3 := sg_bd (pt_lt p 3)
  exact ⟨h3.1, h3.2, h2.1, h2.2, h1.1, h1.2⟩
theorem low_and (p : Nat) : p &&& 16777215 = p % 16777216 := Nat.and_two_pow_sub_one_eq_mod p 24
theorem epx_pel (p : Nat) : epx (pel p) &&& 16777215 = p &&& 16777215 := by
  rw [low_and, low_and, epx, pel]
  show mk4 255 (un (sg (pt p 1))) (un (sg (pt p 2))) (un (sg (pt p 3))) % 16777216 = p % 16777216
  rw [un_sg (pt_lt _ _), un_sg (pt_lt _ _), un_sg (pt_lt _ _), pt_1, pt_2, pt_3, mk4]
  omega
end Go.Proofs.Ytflmlbdcjjldgaa.XNum
