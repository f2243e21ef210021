/- Plain facts: slices of colours and of integers that are read. No conditions. -/
import Derived.Test.YtpkiilnkiidoiaaCCac
namespace Go.Proofs.Ytpkiilnkiidoiaa.CIns
open Go.ChangeShapes Go.WideShapes Go.ChangeAt Go.RowKit Go.Proofs.Ytpkiilnkiidoiaa.Core Go.Proofs.Ytpkiilnkiidoiaa.CNum

/-- A row of integers of one kind, from one place on: its numbers are told by c. -/
def Ints (k : IntKind) (w : World) (b off len : Nat) (c : Nat → Int) : Prop := ∀ i, i < len → w.cell? ⟨b, off + i, none⟩ = some (.int k (c i))
theorem Ints.at {k : IntKind} {w w' : World} {b off len : Nat} {c : Nat → Int} (h : Ints k w b off len c) (u : Below w.heap.size w w') (i : Nat) (hi : i < len) : w'.cell? ⟨b, off + i, none⟩ = some (.int k (c i)) :=
  (u.cell (p := ⟨b, off + i, none⟩) (lt_of_cell (h i hi))).trans (h i hi)
theorem Ints.lt {k : IntKind} {w : World} {b off len : Nat} {c : Nat → Int} (h : Ints k w b off len c) (hl : 0 < len) : b < w.heap.size := lt_of_cell (h 0 hl)
theorem getD_in (zs : List Int) (p : Int → Prop) (hp : ∀ n ∈ zs, p n) (h0 : p 0) (k : Nat) : p (zs.getD k 0) := by
  by_cases hk : k < zs.length
  · refine hp _ ?_
    rw [List.getD_eq_getElem?_getD, List.getElem?_eq_getElem hk]; exact List.getElem_mem hk
  · rw [List.getD_eq_getElem?_getD, List.getElem?_eq_none (by omega)]; exact h0
/-- A slice that came in, of integers of kind k: its address does not matter where it has none. -/
def Slc (k : IntKind) (w : World) (a : Option Addr) (len : Nat) (c : Nat → Int) : Prop :=
  len = 0 ∨ ∃ b off, a = some ⟨b, off, none⟩ ∧ Ints k w b off len c
theorem slc_of_row {k : IntKind} {w : World} {a : Option Addr} {len cap : Nat} {zs : List Int}
    (h : (a = none ∧ len = 0 ∧ cap = 0 ∧ zs = []) ∨
      ∃ x, a = some x ∧ len ≤ cap ∧ cap ≤ maxLen ∧ zs.length = cap ∧ (∀ i, i < zs.length → w.cell? (x.add i) = some (.int k (zs.getD i 0))) ∧ ∀ n ∈ zs, (Lit.int k n).wf = true) :
    Slc k w a len (fun i => zs.getD i 0) ∧ ∀ n ∈ zs, (Lit.int k n).wf = true := by
  rcases h with ⟨rfl, rfl, rfl, rfl⟩ | ⟨x, rfl, h1, h2, hz, hc, hwf⟩
  · exact ⟨.inl rfl, fun n hn => by cases hn⟩
  · refine ⟨?_, hwf⟩
    by_cases h0 : len = 0
    · exact .inl h0
    · obtain ⟨b, off, spot⟩ := x
      have hspot : spot = none := by
        have h0 := hc 0 (by omega)
        simpa [Addr.add] using World.cell?_spot h0
      subst hspot
      exact .inr ⟨b, off, rfl, fun i hi => by rw [← Go.WideShapes.add_plain]; exact hc i (by omega)⟩
theorem nat_of_u32 (zs : List Int) (h : ∀ n ∈ zs, (Lit.int .u32 n).wf = true) : ∃ c : Nat → Nat, (∀ i, zs.getD i 0 = (c i : Int)) ∧ ∀ i, c i < 4294967296 := by
  have hb := getD_in zs (fun z => 0 ≤ z ∧ z ≤ 4294967295) (fun n hn => bounds_u32 (h n hn)) (by omega)
  exact ⟨fun i => (zs.getD i 0).toNat, fun i => (Int.toNat_of_nonneg (hb i).1).symm, fun i => by have h2 := hb i; show (zs.getD i 0).toNat < 4294967296; omega⟩
end Go.Proofs.Ytpkiilnkiidoiaa.CIns
