/- Plain numbers: a pixel less green, and more green. No conditions. -/
import Derived.Test.YtflmlbdcjjldgaaXNum
import Derived.Test.YtflmlbdcjjldgaaPRmk
namespace Go.Proofs.Ytflmlbdcjjldgaa.KNum
set_option linter.unusedVariables false
open Go.Proofs.Ytflmlbdcjjldgaa.PNum Go.Proofs.Ytflmlbdcjjldgaa.PMsk Go.Proofs.Ytflmlbdcjjldgaa.XNum Go.Proofs.Ytflmlbdcjjldgaa.PRmk

/-- Red and blue less green. -/
def lgV (p : Nat) : Nat := mk4 (pt p 0) ((pt p 1 + 256 - pt p 2) % 256) (pt p 2) ((pt p 3 + 256 - pt p 2) % 256)
/-- Red and blue more green. -/
def mgV (p : Nat) : Nat := mk4 (pt p 0) ((pt p 1 + pt p 2) % 256) (pt p 2) ((pt p 3 + pt p 2) % 256)
theorem lgV_lt (p : Nat) : lgV p < 4294967296 := mk4_lt (pt_lt _ _) (md_lt _) (pt_lt _ _) (md_lt _)
theorem mgV_lt (p : Nat) : mgV p < 4294967296 := mk4_lt (pt_lt _ _) (md_lt _) (pt_lt _ _) (md_lt _)
theorem lg_0 (p : Nat) : pt (lgV p) 0 = pt p 0 := mk4_0 (pt_lt _ _) (md_lt _) (pt_lt _ _) (md_lt _)
theorem lg_1 (p : Nat) : pt (lgV p) 1 = (pt p 1 + 256 - pt p 2) % 256 := mk4_1 (pt_lt _ _) (md_lt _) (pt_lt _ _) (md_lt _)
theorem lg_2 (p : Nat) : pt (lgV p) 2 = pt p 2 := mk4_2 (pt_lt _ _) (md_lt _) (pt_lt _ _) (md_lt _)
theorem lg_3 (p : Nat) : pt (lgV p) 3 = (pt p 3 + 256 - pt p 2) % 256 := mk4_3 (pt_lt _ _) (md_lt _) (pt_lt _ _) (md_lt _)
theorem mg_0 (p : Nat) : pt (mgV p) 0 = pt p 0 := mk4_0 (pt_lt _ _) (md_lt _) (pt_lt _ _) (md_lt _)
theorem mg_1 (p : Nat) : pt (mgV p) 1 = (pt p 1 + pt p 2) % 256 := mk4_1 (pt_lt _ _) (md_lt _) (pt_lt _ _) (md_lt _)
theorem mg_2 (p : Nat) : pt (mgV p) 2 = pt p 2 := mk4_2 (pt_lt _ _) (md_lt _) (pt_lt _ _) (md_lt _)
theorem mg_3 (p : Nat) : pt (mgV p) 3 = (pt p 3 + pt p 2) % 256 := mk4_3 (pt_lt _ _) (md_lt _) (pt_lt _ _) (md_lt _)
/-- Forth and back a pixel is itself, and back and forth. -/
theorem mg_lg {p : Nat} (h : p < 4294967296) : mgV (lgV p) = p := by
  rw [mgV, lg_0, lg_1, lg_2, lg_3, sub_back (pt_lt p 1) (pt_lt p 2), sub_back (pt_lt p 3) (pt_lt p 2), mk4_pt h]
theorem lg_mg {p : Nat} (h : p < 4294967296) : lgV (mgV p) = p := by
  rw [lgV, mg_0, mg_1, mg_2, mg_3, add_back (pt_lt p 1) (pt_lt p 2), add_back (pt_lt p 3) (pt_lt p 2), mk4_pt h]
/-- Without green nothing changes. -/
theorem lg_none {p : Nat} (h : p < 4294967296) (h2 : pt p 2 = 0) : lgV p = p := by
  have e0 := mk4_pt h
  rw [h2] at e0
  rw [lgV, h2, take0 (pt_lt p 1), take0 (pt_lt p 3)]
  exact e0
/-- Grey is green alone. -/
theorem lg_grey {a g : Nat} (ha : a < 256) (hg : g < 256) : lgV (mk4 a g g g) = mk4 a 0 g 0 := by
  rw [lgV, mk4_0 ha hg hg hg, mk4_1 ha hg hg hg, mk4_2 ha hg hg hg, mk4_3 ha hg hg hg, show (g + 256 - g) % 256 = 0 by omega]
theorem u8_sub {x d : Nat} (hx : x < 256) (hd : d < 256) : IntKind.u8.wrap ((x : Int) - (d : Int)) = (((x + 256 - d) % 256 : Nat) : Int) := by
  simp [IntKind.wrap, IntKind.bits, IntKind.signed]; omega
theorem u8_add {x d : Nat} (hx : x < 256) (hd : d < 256) : IntKind.u8.wrap ((x : Int) + (d : Int)) = (((x + d) % 256 : Nat) : Int) := by
  simp [IntKind.wrap, IntKind.bits, IntKind.signed]
theorem stays_bits {x y : Nat} (hx : x < 4294967296) (hy : y < 4294967296) (h0 : pt x 0 = pt y 0) (h2 : pt x 2 = pt y 2) : bits .and .u32 (bits .xor .u32 (x : Int) (y : Int)) 4278255360 = 0 := by
  have hx2 : x ^^^ y < 2 ^ 32 := Nat.xor_lt_two_pow (by omega) (by omega)
  rw [u32_xor_nat x y hx hy, show (4278255360 : Int) = ((4278255360 : Nat) : Int) from rfl, u32_and_nat _ _ (by omega) (by omega), stays h0 h2]
  rfl
/-- The document's four numbers, less green or more. -/
def dgF (p : Nat) (g : Int) (k : Nat) : Int := if k = 0 then pt p 0 else if k = 1 then (pt p 1 : Int) + g else if k = 2 then pt p 2 else (pt p 3 : Int) + g
theorem rnd_nat {n : Nat} (h : n < 256) : rnd (n : Int) = n := by unfold rnd; omega
theorem dg_lg (p : Nat) : mk (fun k => rnd (dgF p (-(pt p 2 : Int)) k)) = lgV p := by
  have h0 := pt_lt p 0; have h1 := pt_lt p 1; have h2 := pt_lt p 2; have h3 := pt_lt p 3
  simp only [mk, lgV, mk4, dgF, if_true]
  rw [rnd_nat h0]
  simp only [show ¬ (1 : Nat) = 0 by omega, show ¬ (2 : Nat) = 0 by omega, show ¬ (2 : Nat) = 1 by omega, show ¬ (3 : Nat) = 0 by omega, show ¬ (3 : Nat) = 1 by omega, show ¬ (3 : Nat) = 2 by omega, if_false]
  rw [rnd_nat h2, show rnd ((pt p 1 : Int) + -(pt p 2 : Int)) = (pt p 1 + 256 - pt p 2) % 256 by unfold rnd; omega, show rnd ((pt p 3 : Int) + -(pt p 2 : Int)) = (pt p 3 + 256 - pt p 2) % 256 by unfold rnd; omega]
theorem dg_mg (p : Nat) : mk (fun k => rnd (dgF p (pt p 2 : Int) k)) = mgV p := by
  have h0 := pt_lt p 0; have h1 := pt_lt p 1; have h2 := pt_lt p 2; have h3 := pt_lt p 3
  simp only [mk, mgV, mk4, dgF, if_true]
  rw [rnd_nat h0]
  simp only [show ¬ (1 : Nat) = 0 by omega, show ¬ (2 : Nat) = 0 by omega, show ¬ (2 : Nat) = 1 by omega, show ¬ (3 : Nat) = 0 by omega, show ¬ (3 : Nat) = 1 by omega, show ¬ (3 : Nat) = 2 by omega, if_false]
  rw [rnd_nat h2, show rnd ((pt p 1 : Int) + (pt p 2 : Int)) = (pt p 1 + pt p 2) % 256 by unfold rnd; omega, show rnd ((pt p 3 : Int) + (pt p 2 : Int)) = (pt p 3 + pt p 2) % 256 by unfold rnd; omega]
theorem dg_bd (p : Nat) {g : Int} (h0 : -256 ≤ g) (h1 : g ≤ 256) (k : Nat) : -1000000 ≤ dgF p g k ∧ dgF p g k ≤ 1000000 := by
  have := pt_lt p 0; have := pt_lt p 1; have := pt_lt p 2; have := pt_lt p 3
  unfold dgF
  split
  · omega
  · split
    · omega
    · split <;> omega
end Go.Proofs.Ytflmlbdcjjldgaa.KNum
