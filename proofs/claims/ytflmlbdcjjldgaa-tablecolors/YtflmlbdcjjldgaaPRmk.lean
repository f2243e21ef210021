/- Contracts: the document's Make. Conditions: the four numbers are not beyond a million. -/
import Derived.Test.YtflmlbdcjjldgaaPPrt
namespace Go.Proofs.Ytflmlbdcjjldgaa.PRmk
open Go.ChangeShapes Go.WideShapes Go.ChangeAt Go.RowKit Go.Proofs.Ytflmlbdcjjldgaa.Core Go.Proofs.Ytflmlbdcjjldgaa.PNum Go.Proofs.Ytflmlbdcjjldgaa.PPrt

/-- Round at 256. -/
def rnd (z : Int) : Nat := (z % 256).toNat
theorem rnd_lt (z : Int) : rnd z < 256 := by unfold rnd; omega
theorem rnd_is (z : Int) : (z.tmod 256 + 256).tmod 256 = (rnd z : Int) := by
  have e1 : z.tmod 256 = z - 256 * z.tdiv 256 := by have := Int.tmod_add_mul_tdiv z 256; omega
  have e2 : -256 < z.tmod 256 := Int.lt_tmod_of_pos z (by omega)
  rw [Int.tmod_eq_emod_of_nonneg (by omega)]
  unfold rnd
  omega
/-- The pixel of the first n of four. -/
def mkp (f : Nat → Nat) : Nat → Nat
  | 0 => 0
  | n + 1 => mkp f n * 256 + f n
theorem mkp_four (f : Nat → Nat) : mkp f 4 = mk f := by simp [mkp, mk]
theorem mkp_lt {f : Nat → Nat} (h : ∀ k, f k < 256) {n : Nat} (hn : n < 4) : mkp f n < 16777216 := by
  have h0 := h 0; have h1 := h 1; have h2 := h 2
  have : n = 0 ∨ n = 1 ∨ n = 2 ∨ n = 3 := by omega
  rcases this with rfl | rfl | rfl | rfl <;> simp only [mkp] <;> omega
set_option maxHeartbeats 400000 in
theorem make29 (f : Nat → Int) (w : World) (hf : ∀ k, k < 4 → -1000000 ≤ f k ∧ f k ≤ 1000000) :
    Calls Try.prog 28 #[.agg (four f)] w fun e w' => e = .returned (.int .u32 (mk (fun k => rnd (f k)))) ∧ Below w.heap.size w w' := by
  have FF := hide hf
  have E : Hid (mk (fun k => rnd (f k)) = mkp (fun k => rnd (f k)) 4) := (mkp_four _).symm
  have BX := hide (Box.made w 49 (four f))
  have BL := hide ((Below.refl w.heap.size w).alloc (Nat.le_refl _) (.cells (four f) 49))
  clear hf
  go_enter Try.func28, Try.ntmps28
  go_wp2
  go_loopw [3, 4] (fun p k wr => ∃ j : Nat, j ≤ 4 ∧ k = .int .i64 j ∧ p = .int .u32 (mkp (fun k => rnd (f k)) j) ∧ wr = w.alloc (.cells (four f) 49)) (fun _ k _ => 4 - (intOf k).toNat)
  case atStart => exact ⟨0, by omega, rfl, rfl, rfl⟩
  case round =>
    obtain ⟨j, hj, rfl, rfl, hw⟩ := hrel
    have HW := hide hw
    by_cases hlt : j < 4
    · have hb := unhide FF j hlt
      have c : wr.cell? ⟨w.heap.size, j, none⟩ = some (.int .i64 (f j)) := by rw [hw]; exact ((unhide BX).cell j).trans (four_at f j hlt)
      have lp := mkp_lt (fun k => rnd_lt (f k)) hlt
      have lr := rnd_lt (f j)
      have ER := rnd_is (f j)
      have EN : Hid (mkp (fun k => rnd (f k)) (j + 1) = mkp (fun k => rnd (f k)) j * 256 + rnd (f j)) := rfl
      have ht1 : -256 < (f j).tmod 256 := Int.lt_tmod_of_pos _ (by omega)
      have ht2 : (f j).tmod 256 < 256 := Int.tmod_lt_of_pos _ (by omega)
      have hlt' : (j : Int) < 4 := by omega
      clear hw hb
      generalize mkp (fun k => rnd (f k)) j = m at *
      generalize rnd (f j) = r at *
      generalize f j = z at *
      generalize hm : z.tmod 256 = t at *
      go_wp2
      go_roundw
      case rel => exact ⟨j + 1, by omega, by go_num, by rw [unhide EN]; go_num, unhide HW⟩
      case measure => simp [intOf]; omega
    · obtain rfl : j = 4 := by omega
      clear hlt
      rw [← unhide E]
      go_wp2
      go_ret
      exact ⟨rfl, unhide BL⟩
end Go.Proofs.Ytflmlbdcjjldgaa.PRmk
