/- Plain numbers: pixels packed by their own colours. No function of the program. No conditions. -/
import Derived.Test.YtflmlbdcjjldgaaTPkn
import Derived.Test.YtflmlbdcjjldgaaTSet
import Derived.Test.YtflmlbdcjjldgaaTUnp
namespace Go.Proofs.Ytflmlbdcjjldgaa.TFin
set_option linter.unusedVariables false
open Go.ChangeShapes Go.WideShapes Go.ChangeAt Go.RowKit Go.Proofs.Ytflmlbdcjjldgaa.Core Go.Proofs.Ytflmlbdcjjldgaa.LBlk Go.Proofs.Ytflmlbdcjjldgaa.PNum Go.Proofs.Ytflmlbdcjjldgaa.TNum Go.Proofs.Ytflmlbdcjjldgaa.TPkn Go.Proofs.Ytflmlbdcjjldgaa.TSet Go.Proofs.Ytflmlbdcjjldgaa.TUnp

/-- A picture's own table. -/
def ct (z : Nat → Nat) (n j : Nat) : Nat := (ds z n).getD j 0
theorem nm_ct (z : Nat → Nat) (n : Nat) : ∀ i, i < n → nm (ct z n) (ds z n).length (z i) < (ds z n).length := by
  intro i hi
  have hm : z i ∈ ds z n := (ds_mem z (z i) n).2 ⟨i, hi, rfl⟩
  obtain ⟨j, hj, e⟩ := List.getElem_of_mem hm
  have := fr_some (t := ct z n) (p := z i) (m := (ds z n).length) (i := 0) (j := j) (Nat.zero_le _) (by omega) (by unfold ct; simp [hj, e])
  unfold nm
  omega
theorem ct_lt {z : Nat → Nat} {n : Nat} (h : ∀ i, i < n → z i < 4294967296) : ∀ j, j < (ds z n).length → ct z n j < 4294967296 := by
  intro j hj
  have hm : ct z n j ∈ ds z n := by unfold ct; simp [hj]
  obtain ⟨i, hi, e⟩ := (ds_mem z _ n).1 hm
  rw [← e]
  exact h i hi
theorem ct_pos {z : Nat → Nat} {n : Nat} (h : 0 < n) : 1 ≤ (ds z n).length := by
  have hm : z 0 ∈ ds z n := (ds_mem z (z 0) n).2 ⟨0, h, rfl⟩
  exact List.length_pos_of_mem hm
theorem sz_all {b : Nat} (hb : b ≤ 3) : sz b * 2 ^ b = 8 := by
  rcases four_b hb with rfl | rfl | rfl | rfl <;> decide
variable {t : Nat → Nat} {n : Nat} {z : Nat → Nat} {W H b : Nat}
theorem pg_byte {i j : Nat} (hb : b ≤ 3) (h0 : 0 < W) (hj : j < bl W b * H) (hf : ∀ i, i < W * H → nm t n (z i) < 2 ^ sz b) : pg t n z W b i j < 256 := by
  have hw := bl_pos b h0
  have hy : j / bl W b < H := by rw [Nat.div_lt_iff_lt_mul hw, Nat.mul_comm]; exact hj
  unfold pg
  have l : gs (nf t n z W b j) W (sz b) (j % bl W b * 2 ^ b) (min (2 ^ b) (i - bg W b j)) < 2 ^ (sz b * min (2 ^ b) (i - bg W b j)) := gs_lt fun k hk hx => by
    unfold nf
    refine hf _ ?_
    unfold bg
    have h1 : (j / bl W b + 1) * W ≤ H * W := Nat.mul_le_mul_right _ hy
    rw [Nat.add_mul, Nat.mul_comm H] at h1
    omega
  refine Nat.lt_of_lt_of_le l ?_
  rw [show 256 = 2 ^ 8 from rfl, ← sz_all hb]
  exact Nat.pow_le_pow_right (by omega) (Nat.mul_le_mul_left _ (Nat.min_le_left _ _))
theorem pk_lt {G : Nat} (h : G < 256) : 4278190080 + 256 * G < 4294967296 := by omega
theorem pk_mask {G : Nat} (h : G < 256) : bits .and .u32 ((4278190080 + 256 * G : Nat) : Int) 4294902015 = 4278190080 := by
  have e : (4278190080 + 256 * G) &&& 4294902015 = 4278190080 := by
    have : ∀ g : Fin 256, (4278190080 + 256 * g.val) &&& 4294902015 = 4278190080 := by decide +kernel
    exact this ⟨G, h⟩
  rw [u32_and _ _ (by omega) (by omega) (by omega) (by omega), Int.toNat_natCast]
  show ((((4278190080 + 256 * G) &&& 4294902015 : Nat)) : Int) = _
  rw [e]
  rfl
theorem pk_green {G : Nat} (h : G < 256) : pt (4278190080 + 256 * G) 2 = G := by
  show (4278190080 + 256 * G) / 256 % 256 = G
  omega
theorem nm_at {p : Nat} (h : nm t n p < n) : t (nm t n p) = p := fr_at t p n 0 (by unfold nm at h; omega)
theorem uv_back (h0 : 0 < W) (hn : n ≤ 256) (hf : ∀ i, i < W * H → nm t n (z i) < n) : ∀ i, i < W * H → uv t n (pk t n z W (bv n) (W * H)) (bl W (bv n)) (bv n) W i = z i := by
  intro i hi
  obtain ⟨y, x, hx, hy, hyx⟩ := Go.Proofs.Ytflmlbdcjjldgaa.TPak.row_of (W := W) (H := H) h0 hi
  have hb := bv_le (n : Int)
  have hb3 : bv n ≤ 3 := hb
  obtain ⟨e1, e2⟩ := at_div (y := y) hx
  rw [hyx] at e1 e2
  have hj : y * bl W (bv n) + x / 2 ^ bv n < bl W (bv n) * H := Go.Proofs.Ytflmlbdcjjldgaa.Ims.place_lt (in_bl (bv n) hx) hy
  have hm : x % 2 ^ bv n < 2 ^ bv n := Nat.mod_lt _ (Nat.two_pow_pos _)
  have hl : x % 2 ^ bv n ≤ x := Nat.mod_le _ _
  have hg : pt (pk t n z W (bv n) (W * H) (y * bl W (bv n) + x / 2 ^ bv n)) 2 = gw t n z W (bv n) (y * bl W (bv n) + x / 2 ^ bv n) := by
    unfold pk
    rw [pk_green (pg_byte hb3 h0 hj fun i hi => num_fits hn (hf i hi)), pg_end h0 hj]
  have hd : gw t n z W (bv n) (y * bl W (bv n) + x / 2 ^ bv n) / 2 ^ (x % 2 ^ bv n * sz (bv n)) % 2 ^ sz (bv n) = nm t n (z i) := by
    unfold gw
    rw [Nat.mul_comm (x % 2 ^ bv n), (bg_at hx).2]
    rw [gs_digit (k := x % 2 ^ bv n) (fun k hk hxk => ?_) hm (by omega), nf_at hx, hyx]
    refine nf_fits hn (hf _ ?_)
    rw [(bg_at hx).1]
    have h1 : (y + 1) * W ≤ H * W := Nat.mul_le_mul_right _ hy
    rw [Nat.add_mul, Nat.mul_comm H] at h1
    omega
  unfold uv
  rw [e1, e2, hg, hd, if_pos (hf i hi)]
  exact nm_at (hf i hi)
end Go.Proofs.Ytflmlbdcjjldgaa.TFin
