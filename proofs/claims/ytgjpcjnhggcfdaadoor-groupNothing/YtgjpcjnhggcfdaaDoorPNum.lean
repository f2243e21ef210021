/- Plain numbers: a pixel's four, and what two and three pixels come to. No conditions. -/
import Derived.Test.YtgjpcjnhggcfdaaDoorBase
namespace Go.Proofs.YtgjpcjnhggcfdaaDoor.PNum

/-- One of a pixel's four: alpha, red, green, blue. -/
def pt (p k : Nat) : Nat := p / 2 ^ (24 - 8 * k) % 256
/-- The pixel of four. -/
def mk (f : Nat → Nat) : Nat := ((f 0 * 256 + f 1) * 256 + f 2) * 256 + f 3
theorem pt_lt (p k : Nat) : pt p k < 256 := Nat.mod_lt _ (by omega)
theorem pt_0 (p : Nat) : pt p 0 = p / 16777216 % 256 := rfl
theorem pt_1 (p : Nat) : pt p 1 = p / 65536 % 256 := rfl
theorem pt_2 (p : Nat) : pt p 2 = p / 256 % 256 := rfl
theorem pt_3 (p : Nat) : pt p 3 = p % 256 := by simp [pt]
theorem mk_lt {f : Nat → Nat} (h : ∀ k, k < 4 → f k < 256) : mk f < 4294967296 := by
  have h0 := h 0 (by omega); have h1 := h 1 (by omega); have h2 := h 2 (by omega); have h3 := h 3 (by omega)
  unfold mk; omega
theorem mk_congr {f g : Nat → Nat} (h : ∀ k, k < 4 → f k = g k) : mk f = mk g := by
  unfold mk; rw [h 0 (by omega), h 1 (by omega), h 2 (by omega), h 3 (by omega)]
theorem pt_mk {f : Nat → Nat} (h : ∀ k, k < 4 → f k < 256) {k : Nat} (hk : k < 4) : pt (mk f) k = f k := by
  have h0 := h 0 (by omega); have h1 := h 1 (by omega); have h2 := h 2 (by omega); have h3 := h 3 (by omega)
  have : k = 0 ∨ k = 1 ∨ k = 2 ∨ k = 3 := by omega
  rcases this with rfl | rfl | rfl | rfl
  · rw [pt_0]; unfold mk; omega
  · rw [pt_1]; unfold mk; omega
  · rw [pt_2]; unfold mk; omega
  · rw [pt_3]; unfold mk; omega
theorem mk_pt {p : Nat} (h : p < 4294967296) : mk (pt p) = p := by
  unfold mk; rw [pt_0, pt_1, pt_2, pt_3]; omega
theorem mk_is {p : Nat} (h : p < 4294967296) {f : Nat → Nat} (hf : ∀ k, k < 4 → f k = pt p k) : mk f = p := (mk_congr hf).trans (mk_pt h)

/-- Cut to 0 to 255. -/
def cutV (z : Int) : Nat := if z < 0 then 0 else if 255 < z then 255 else z.toNat
theorem cutV_lt (z : Int) : cutV z < 256 := by unfold cutV; split <;> (try split) <;> omega
theorem cutV_low {z : Int} (h : z < 0) : cutV z = 0 := by unfold cutV; rw [if_pos h]
theorem cutV_high {z : Int} (h : 255 < z) : cutV z = 255 := by unfold cutV; rw [if_neg (by omega), if_pos h]
theorem cutV_in {z : Int} (h0 : 0 ≤ z) (h1 : z ≤ 255) : (cutV z : Int) = z := by unfold cutV; rw [if_neg (by omega), if_neg (by omega)]; omega

def addF (p q k : Nat) : Nat := (pt p k + pt q k) % 256
def subF (p q k : Nat) : Nat := (pt p k + 256 - pt q k) % 256
def avgF (p q k : Nat) : Nat := (pt p k + pt q k) / 2
def fullF (l t u k : Nat) : Nat := cutV ((pt l k : Int) + pt t k - pt u k)
def halfF (p q k : Nat) : Nat := cutV ((pt p k : Int) + ((pt p k : Int) - pt q k).tdiv 2)
/-- How far two numbers are from each other. -/
def dif (a b : Nat) : Nat := ((a : Int) - b).natAbs
/-- How far two pixels are from each other, in the first n of their four. -/
def far (p q : Nat) : Nat → Nat
  | 0 => 0
  | n + 1 => far p q n + dif (pt p n) (pt q n)
def addV (p q : Nat) : Nat := mk (addF p q)
def subV (p q : Nat) : Nat := mk (subF p q)
def avgV (p q : Nat) : Nat := mk (avgF p q)
def fullV (l t u : Nat) : Nat := mk (fullF l t u)
def halfV (p q : Nat) : Nat := mk (halfF p q)
def pickV (l t u : Nat) : Nat := if far t u 4 < far l u 4 then l else t
theorem addF_lt (p q k : Nat) : addF p q k < 256 := Nat.mod_lt _ (by omega)
theorem subF_lt (p q k : Nat) : subF p q k < 256 := Nat.mod_lt _ (by omega)
theorem avgF_lt (p q k : Nat) : avgF p q k < 256 := by have := pt_lt p k; have := pt_lt q k; unfold avgF; omega
theorem fullF_lt (l t u k : Nat) : fullF l t u k < 256 := cutV_lt _
theorem halfF_lt (p q k : Nat) : halfF p q k < 256 := cutV_lt _
theorem addV_lt (p q : Nat) : addV p q < 4294967296 := mk_lt fun k _ => addF_lt p q k
theorem subV_lt (p q : Nat) : subV p q < 4294967296 := mk_lt fun k _ => subF_lt p q k
theorem avgV_lt (p q : Nat) : avgV p q < 4294967296 := mk_lt fun k _ => avgF_lt p q k
theorem fullV_lt (l t u : Nat) : fullV l t u < 4294967296 := mk_lt fun k _ => fullF_lt l t u k
theorem halfV_lt (p q : Nat) : halfV p q < 4294967296 := mk_lt fun k _ => halfF_lt p q k
theorem pickV_lt {l t : Nat} (u : Nat) (hl : l < 4294967296) (ht : t < 4294967296) : pickV l t u < 4294967296 := by unfold pickV; split <;> assumption
theorem pt_addV (p q : Nat) {k : Nat} (hk : k < 4) : pt (addV p q) k = addF p q k := pt_mk (fun k _ => addF_lt p q k) hk
theorem pt_subV (p q : Nat) {k : Nat} (hk : k < 4) : pt (subV p q) k = subF p q k := pt_mk (fun k _ => subF_lt p q k) hk
theorem pt_avgV (p q : Nat) {k : Nat} (hk : k < 4) : pt (avgV p q) k = avgF p q k := pt_mk (fun k _ => avgF_lt p q k) hk
theorem pt_fullV (l t u : Nat) {k : Nat} (hk : k < 4) : pt (fullV l t u) k = fullF l t u k := pt_mk (fun k _ => fullF_lt l t u k) hk
theorem pt_halfV (p q : Nat) {k : Nat} (hk : k < 4) : pt (halfV p q) k = halfF p q k := pt_mk (fun k _ => halfF_lt p q k) hk
theorem dif_le (p q k : Nat) : dif (pt p k) (pt q k) ≤ 255 := by have := pt_lt p k; have := pt_lt q k; unfold dif; omega
theorem far_le (p q n : Nat) : far p q n ≤ 255 * n := by
  induction n with
  | zero => simp [far]
  | succ n ih => have := dif_le p q n; unfold far; omega

/-! ### Ways back -/
theorem sub_add {p : Nat} (q : Nat) (hp : p < 4294967296) : subV (addV p q) q = p :=
  mk_is hp fun k hk => by
    have := pt_lt p k; have := pt_lt q k
    unfold subF; rw [pt_addV p q hk]; unfold addF; omega
theorem add_sub {p : Nat} (q : Nat) (hp : p < 4294967296) : addV (subV p q) q = p :=
  mk_is hp fun k hk => by
    have := pt_lt p k; have := pt_lt q k
    unfold addF; rw [pt_subV p q hk]; unfold subF; omega
theorem add_comm (p q : Nat) : addV p q = addV q p := mk_congr fun k _ => by unfold addF; rw [Nat.add_comm]
theorem avg_self {p : Nat} (hp : p < 4294967296) : avgV p p = p := mk_is hp fun k _ => by unfold avgF; omega
theorem avg_between (p q : Nat) {k : Nat} (hk : k < 4) : ¬ (pt (avgV p q) k < pt p k ∧ pt (avgV p q) k < pt q k) ∧ ¬ (pt p k < pt (avgV p q) k ∧ pt q k < pt (avgV p q) k) := by
  rw [pt_avgV p q hk]; unfold avgF; omega
theorem full_comm (l t u : Nat) : fullV l t u = fullV t l u := mk_congr fun k _ => by unfold fullF; rw [Int.add_comm]
end Go.Proofs.YtgjpcjnhggcfdaaDoor.PNum
