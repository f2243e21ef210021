/- Plain facts: slices of integers of any kind that came in; who comes more often has no longer code. Conditions: as each says. -/
import Derived.Test.YtcfnbbelbadmkaaGth
namespace Go.Proofs.Ytcfnbbelbadmkaa.Ord
open Go.ChangeShapes Go.WideShapes Go.ChangeAt Go.RowKit Go.Proofs.Ytcfnbbelbadmkaa.Core Go.Proofs.Ytcfnbbelbadmkaa.Gnd Go.Proofs.Ytcfnbbelbadmkaa.Srt Go.Proofs.Ytcfnbbelbadmkaa.Ris Go.Proofs.Ytcfnbbelbadmkaa.Bst Go.Proofs.Ytcfnbbelbadmkaa.Fin Go.Proofs.Ytcfnbbelbadmkaa.Use

theorem row_ints {k : IntKind} {w : World} {a : Option Addr} {len cap : Nat} {zs : List Int}
    (h : (a = none ∧ len = 0 ∧ cap = 0 ∧ zs = []) ∨
      ∃ x, a = some x ∧ len ≤ cap ∧ cap ≤ maxLen ∧ zs.length = cap ∧ (∀ i, i < zs.length → w.cell? (x.add i) = some (.int k (zs.getD i 0))) ∧ ∀ n ∈ zs, (Lit.int k n).wf = true) :
    Ints k w (.slice a len cap) len (fun j => zs.getD j 0) ∧ ∀ j, j < len → (Lit.int k (zs.getD j 0)).wf = true := by
  rcases h with ⟨rfl, rfl, rfl, rfl⟩ | ⟨x, rfl, h1, h2, hz, hc, hwf⟩
  · exact ⟨⟨none, 0, rfl, fun i hi => by omega⟩, fun j hj => by omega⟩
  · refine ⟨⟨some x, cap, rfl, fun i hi => ?_⟩, fun j hj => ?_⟩
    · have h3 := hc i (by omega)
      obtain ⟨b, off, spot⟩ := x
      have hspot : spot = none := by
        have h0 := hc 0 (by omega)
        simpa [Addr.add] using World.cell?_spot h0
      subst hspot
      exact ⟨b, off, rfl, by rw [← Go.WideShapes.add_plain]; exact h3⟩
    · have hx : zs.getD j 0 ∈ zs := by
        rw [List.getD_eq_getElem?_getD, List.getElem?_eq_getElem (by omega)]; exact List.getElem_mem (by omega)
      exact hwf _ hx
theorem ord_lens {c : Nat → Int} {len m : Nat} {s M : Nat → Nat} (h : Lns c len m s M) (hm : 1 ≤ m) (hn : (pos c len).length ≤ 2 ^ m) {i k : Nat} (hi : i < len) (hk : k < len) (h0 : 0 < c k) (h1 : c k < c i) : M i ≤ M k := by
  obtain ⟨p, hp, e1⟩ := re_surj h.re hi (by omega)
  obtain ⟨q, hq, e2⟩ := re_surj h.re hk h0
  rcases Nat.lt_trichotomy p q with e | e | e
  · have := h.up p q (Nat.zero_le _) e hq
    rw [e1, e2] at this
    omega
  · subst e
    rw [e1] at e2
    subst e2
    omega
  · have g := (lns_good h (by omega) hm hn).ord q p e hp
    rw [← e1, ← e2]
    exact g
end Go.Proofs.Ytcfnbbelbadmkaa.Ord
