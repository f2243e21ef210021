/- Plain numbers: an image less what its pixels may be, and the way back. No conditions beyond those that each says. -/
import Derived.Test.YtnfokdcoelignaaGCpy
import Derived.Test.YtnfokdcoelignaaLBlk
namespace Go.Proofs.Ytnfokdcoelignaa.LNum
set_option linter.unusedVariables false
open Go.Proofs.Ytnfokdcoelignaa.Core Go.Proofs.Ytnfokdcoelignaa.PNum Go.Proofs.Ytnfokdcoelignaa.GGue Go.Proofs.Ytnfokdcoelignaa.GImg Go.Proofs.Ytnfokdcoelignaa.GAro Go.Proofs.Ytnfokdcoelignaa.GAtt Go.Proofs.Ytnfokdcoelignaa.GCpy Go.Proofs.Ytnfokdcoelignaa.LBlk

/-- The mode of the pixel number i. -/
def moV (W k : Nat) (md : Nat → Int) (i : Nat) : Int := md (bk W k (i % W) (i / W))
/-- What the pixel number i may be. -/
def gu (W k : Nat) (md : Nat → Int) (z : Nat → Nat) (i : Nat) : Nat := atV W z (moV W k md i) (i % W) (i / W)
theorem place_is (W i : Nat) : i = i / W * W + i % W := (Nat.div_add_mod' i W).symm
theorem gu_ahead {W : Nat} (k : Nat) (md : Nat → Int) {z z' : Nat → Nat} {i : Nat} (hW : 0 < W) (e : ∀ j, j < i → z j = z' j) : gu W k md z i = gu W k md z' i :=
  at_ahead _ (Nat.mod_lt _ hW) (place_is W i) e
/-- Each pixel less what it may be. -/
def foV (W k : Nat) (md : Nat → Int) (z : Nat → Nat) (i : Nat) : Nat := subV (z i) (gu W k md z i)
/-- The way back: what is there once the first so many are done. -/
def stV (W k : Nat) (md : Nat → Int) (z : Nat → Nat) : Nat → Nat → Nat
  | 0 => fun _ => 0
  | i + 1 => fun j => if j = i then addV (z i) (gu W k md (stV W k md z i) i) else stV W k md z i j
theorem st_same (W k : Nat) (md : Nat → Int) (z : Nat → Nat) (i : Nat) : stV W k md z (i + 1) i = addV (z i) (gu W k md (stV W k md z i) i) := if_pos rfl
theorem st_other (W k : Nat) (md : Nat → Int) (z : Nat → Nat) {i j : Nat} (h : j ≠ i) : stV W k md z (i + 1) j = stV W k md z i j := if_neg h
theorem st_from (W k : Nat) (md : Nat → Int) (z : Nat → Nat) {i j : Nat} (h : j < i) : stV W k md z i j = stV W k md z (j + 1) j := by
  induction i with
  | zero => omega
  | succ i ih =>
    by_cases e : j = i
    · subst e; rfl
    · rw [st_other W k md z e]; exact ih (by omega)
/-- The way back, whole. -/
def baV (W k : Nat) (md : Nat → Int) (z : Nat → Nat) (j : Nat) : Nat := stV W k md z (j + 1) j
theorem st_ba (W k : Nat) (md : Nat → Int) (z : Nat → Nat) {i j : Nat} (h : j < i) : stV W k md z i j = baV W k md z j := st_from W k md z h
theorem ba_is {W : Nat} (k : Nat) (md : Nat → Int) (z : Nat → Nat) (hW : 0 < W) (j : Nat) : baV W k md z j = addV (z j) (gu W k md (baV W k md z) j) := by
  rw [baV, st_same, gu_ahead k md hW (fun i hi => st_ba W k md z hi)]
theorem ba_lt {W : Nat} (k : Nat) (md : Nat → Int) (z : Nat → Nat) (hW : 0 < W) (j : Nat) : baV W k md z j < 4294967296 := by rw [ba_is k md z hW j]; exact addV_lt _ _
/-- Back, and forth again. -/
theorem fo_ba {W : Nat} (k : Nat) (md : Nat → Int) (z : Nat → Nat) (hW : 0 < W) {j : Nat} (hz : z j < 4294967296) : foV W k md (baV W k md z) j = z j := by
  rw [foV, ba_is k md z hW j, sub_add _ hz]
/-- Forth, and back again. -/
theorem ba_fo {W n : Nat} (k : Nat) (md : Nat → Int) (z : Nat → Nat) (hW : 0 < W) (hz : ∀ j, j < n → z j < 4294967296) {x : Nat → Nat} (hx : ∀ j, j < n → x j = foV W k md z j) : ∀ j, j < n → baV W k md x j = z j := by
  intro j
  induction j using Nat.strongRecOn with
  | ind j ih =>
    intro hj
    rw [ba_is k md x hW j, hx j hj, foV, gu_ahead k md (z' := z) hW (fun i hi => ih i hi (by omega)), add_sub _ (hz j hj)]
theorem fo_congr {W n : Nat} (k : Nat) (md : Nat → Int) {z z' : Nat → Nat} (hW : 0 < W) (e : ∀ j, j < n → z j = z' j) {j : Nat} (hj : j < n) : foV W k md z j = foV W k md z' j := by
  rw [foV, foV, e j hj, gu_ahead k md hW (fun i hi => e i (by omega))]
/-- With one mode for all blocks their size does not matter. -/
theorem fo_one (W k k' : Nat) {md md' : Nat → Int} (z : Nat → Nat) {i : Nat} (e : moV W k md i = moV W k' md' i) : foV W k md z i = foV W k' md' z i := by
  rw [foV, foV, gu, gu, e]
end Go.Proofs.Ytnfokdcoelignaa.LNum
