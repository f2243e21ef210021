/- Contracts: places.longest. Conditions: at most a hundred thousand pixels; three pixels are left at the place. -/
import Derived.Test.YtpkiilnkiidoiaaKGr2
namespace Go.Proofs.Ytpkiilnkiidoiaa.KGr3
set_option linter.unusedVariables false
open Go.ChangeShapes Go.WideShapes Go.ChangeAt Go.RowKit Go.Maps Go.Proofs.Ytpkiilnkiidoiaa.Core Go.Proofs.Ytpkiilnkiidoiaa.CNum Go.Proofs.Ytpkiilnkiidoiaa.KNum Go.Proofs.Ytpkiilnkiidoiaa.KMem Go.Proofs.Ytpkiilnkiidoiaa.KFit Go.Proofs.Ytpkiilnkiidoiaa.KGr0 Go.Proofs.Ytpkiilnkiidoiaa.KGr1 Go.Proofs.Ytpkiilnkiidoiaa.KGr2

/-- None yet, or a copy that tells just these pixels. -/
def Cop (px : List Nat) (k hi L D : Nat) : Prop := L = 0 ∨ (1 ≤ L ∧ k + L ≤ hi ∧ 1 ≤ D ∧ D ≤ k ∧ D ≤ 1048456 ∧ sect px k L = sect px (k - D) L)
/-- The search so far. -/
structure Lng (w : World) (px : List Nat) (k hi L D : Nat) (wr : World) : Prop where
  res : Box wr w.heap.size 45 #[.int .i64 0, .int .i64 0, .int .i64 0]
  best : Box wr (w.heap.size + 1) 45 #[.int .i64 k, .int .i64 L, .int .i64 D]
  bel : Below w.heap.size w wr
  cop : Cop px k hi L D
theorem Lng.keep {w wr w' : World} {px : List Nat} {k hi L D : Nat} (h : Lng w px k hi L D wr) (u : Below wr.heap.size wr w') : Lng w px k hi L D w' :=
  ⟨h.res.below u h.res.lt, h.best.below u h.best.lt, bel_into h.bel u, h.cop⟩
theorem Lng.start (w : World) (px : List Nat) (k hi : Nat) : Lng w px k hi 0 0 ((w.alloc (.cells #[.int .i64 0, .int .i64 0, .int .i64 0] 45)).alloc (.cells #[.int .i64 k, .int .i64 0, .int .i64 0] 45)) := by
  have b2 := Box.made (w.alloc (.cells #[.int .i64 0, .int .i64 0, .int .i64 0] 45)) 45 #[.int .i64 k, .int .i64 0, .int .i64 0]
  rw [show (w.alloc (.cells #[.int .i64 0, .int .i64 0, .int .i64 0] 45)).heap.size = w.heap.size + 1 by simp] at b2
  exact ⟨(Box.made w 45 _).alloc _, b2, (bel_a1 w _).alloc (by simp) _, .inl rfl⟩
theorem Lng.set {w wr : World} {px : List Nat} {k hi L D : Nat} (h : Lng w px k hi L D wr) (L' D' : Nat) (hc : Cop px k hi L' D') : Lng w px k hi L' D' ((wr.setCell ⟨w.heap.size + 1, 1, none⟩ (.int .i64 L')).setCell ⟨w.heap.size + 1, 2, none⟩ (.int .i64 D')) := by
  have b := (h.best.set 1 (.int .i64 L')).set 2 (.int .i64 D')
  refine ⟨(h.res.other (p := ⟨w.heap.size + 1, 1, none⟩) (by show w.heap.size ≠ w.heap.size + 1; omega) _).other (p := ⟨w.heap.size + 1, 2, none⟩) (by show w.heap.size ≠ w.heap.size + 1; omega) _, by simpa using b, (h.bel.setCell (p := ⟨w.heap.size + 1, 1, none⟩) (by show w.heap.size ≤ w.heap.size + 1; omega) _).setCell (p := ⟨w.heap.size + 1, 2, none⟩) (by show w.heap.size ≤ w.heap.size + 1; omega) _, hc⟩
/-- What longest answers. -/
def LAns (w : World) (px : List Nat) (k hi : Nat) (e : Ending) (w' : World) : Prop := (∃ L D : Nat, e = .returned (.agg #[.int .i64 k, .int .i64 L, .int .i64 D]) ∧ Cop px k hi L D) ∧ Below w.heap.size w w'
theorem Lng.fin {w wr : World} {px : List Nat} {k hi L D : Nat} (h : Lng w px k hi L D wr) : Box (((wr.setCell ⟨w.heap.size, 0, none⟩ (.int .i64 k)).setCell ⟨w.heap.size, 1, none⟩ (.int .i64 L)).setCell ⟨w.heap.size, 2, none⟩ (.int .i64 D)) w.heap.size 45 #[.int .i64 k, .int .i64 L, .int .i64 D] ∧ Below w.heap.size w (((wr.setCell ⟨w.heap.size, 0, none⟩ (.int .i64 k)).setCell ⟨w.heap.size, 1, none⟩ (.int .i64 L)).setCell ⟨w.heap.size, 2, none⟩ (.int .i64 D)) := by
  have b := ((h.res.set 0 (.int .i64 k)).set 1 (.int .i64 L)).set 2 (.int .i64 D)
  exact ⟨by simpa using b, ((h.bel.setCell (p := ⟨w.heap.size, 0, none⟩) (Nat.le_refl _) _).setCell (p := ⟨w.heap.size, 1, none⟩) (Nat.le_refl _) _).setCell (p := ⟨w.heap.size, 2, none⟩) (Nat.le_refl _) _⟩
/-- q pixels are alike: so long a copy. -/
theorem cop_mk {px : List Nat} {k hi q D m : Nat} (hm : m + D = k) (hd : D ≤ 1048456) (hD : 1 ≤ D) (hq0 : 1 ≤ q) (hhi : hi ≤ px.length) (hq : q ≤ hi - k) (hk : k ≤ hi) (h : ∀ j, j < q → (sect px k (hi - k)).getD j 0 = (px.drop m).getD j 0) : Cop px k hi q D := by
  refine .inr ⟨hq0, by omega, hD, by omega, hd, sect_eq (by omega) (by omega) (fun j hj => ?_)⟩
  have h1 := h j hj
  rw [List.getD_eq_getElem?_getD, sect_at _ _ _ _ (by omega), List.getD_eq_getElem?_getD, List.getElem?_drop] at h1
  rw [List.getD_eq_getElem?_getD, List.getD_eq_getElem?_getD, show k - D + j = m + j by omega]
  exact h1
end Go.Proofs.Ytpkiilnkiidoiaa.KGr3
