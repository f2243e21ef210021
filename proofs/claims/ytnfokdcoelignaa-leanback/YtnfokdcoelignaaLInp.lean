/- Plain facts: images and modes that came in. Conditions: as each says. -/
import Derived.Test.YtnfokdcoelignaaLSnd
namespace Go.Proofs.Ytnfokdcoelignaa.LInp
set_option linter.unusedVariables false
open Go.ChangeShapes Go.WideShapes Go.ChangeAt Go.RowKit Go.Sort Go.Proofs.Ytnfokdcoelignaa.Core Go.Proofs.Ytnfokdcoelignaa.PNum Go.Proofs.Ytnfokdcoelignaa.PFun Go.Proofs.Ytnfokdcoelignaa.PGoo Go.Proofs.Ytnfokdcoelignaa.GGue Go.Proofs.Ytnfokdcoelignaa.GImg Go.Proofs.Ytnfokdcoelignaa.GAro Go.Proofs.Ytnfokdcoelignaa.GAtt Go.Proofs.Ytnfokdcoelignaa.GCpy Go.Proofs.Ytnfokdcoelignaa.LBlk Go.Proofs.Ytnfokdcoelignaa.LMod Go.Proofs.Ytnfokdcoelignaa.LSnd

theorem pix_of {w : World} {a : Option Addr} {len cap : Nat} {zs : List Int} (h : (a = none ∧ len = 0 ∧ cap = 0 ∧ zs = []) ∨ ∃ x, a = some x ∧ len ≤ cap ∧ cap ≤ maxLen ∧ zs.length = cap ∧ (∀ i, i < zs.length → w.cell? (x.add i) = some (.int .u32 (zs.getD i 0))) ∧ ∀ n ∈ zs, (Lit.int .u32 n).wf = true) (h0 : 0 < len) :
    ∃ b off, ∃ z : Nat → Nat, a = some ⟨b, off, none⟩ ∧ Pixs w b off len z ∧ ∀ i, i < len → z i < 4294967296 := by
  rcases h with ⟨rfl, rfl, rfl, rfl⟩ | ⟨x, rfl, h1, h2, hz, hc, hwf⟩
  · omega
  · obtain ⟨b, off, spot⟩ := x
    have hspot : spot = none := by
      have h0 := hc 0 (by omega)
      simpa [Addr.add] using World.cell?_spot h0
    subst hspot
    have hb : ∀ i, i < len → 0 ≤ zs.getD i 0 ∧ zs.getD i 0 ≤ 4294967295 := fun i hi => bounds_u32 (hwf (zs.getD i 0) (by rw [List.getD_eq_getElem?_getD, List.getElem?_eq_getElem (by omega)]; exact List.getElem_mem _))
    refine ⟨b, off, fun i => (zs.getD i 0).toNat, rfl, fun i hi => ?_, fun i hi => ?_⟩
    · rw [← Go.WideShapes.add_plain, hc i (by omega)]
      show some (Value.int .u32 (zs.getD i 0)) = some (Value.int .u32 ((zs.getD i 0).toNat : Int))
      rw [Int.toNat_of_nonneg (hb i hi).1]
    · have := hb i hi
      show (zs.getD i 0).toNat < 4294967296
      omega
theorem img_of {w : World} {W H : Int} {a : Option Addr} {len cap : Nat} {zs : List Int} (h : (a = none ∧ len = 0 ∧ cap = 0 ∧ zs = []) ∨ ∃ x, a = some x ∧ len ≤ cap ∧ cap ≤ maxLen ∧ zs.length = cap ∧ (∀ i, i < zs.length → w.cell? (x.add i) = some (.int .u32 (zs.getD i 0))) ∧ ∀ n ∈ zs, (Lit.int .u32 n).wf = true) (hg : gdV W H len = true) :
    ∃ b off, ∃ z : Nat → Nat, ∃ W' H' : Nat, a = some ⟨b, off, none⟩ ∧ W = W' ∧ H = H' ∧ Img w W' H' b off len z ∧ 1 ≤ W' ∧ 1 ≤ H' ∧ ∀ i, i < len → z i < 4294967296 := by
  obtain ⟨W', H', rfl, rfl, h1, h2, h3, h4, e⟩ := gd_of hg
  have p : 0 < W' * H' := Nat.mul_pos (by omega) (by omega)
  obtain ⟨b, off, z, rfl, hp, hb⟩ := pix_of h (by omega)
  exact ⟨b, off, z, W', H', rfl, rfl, rfl, ⟨by omega, by omega, e, hp⟩, h1, h3, hb⟩
theorem mds_of {w : World} {a : Option Addr} {len cap : Nat} {zs : List Int} (h : (a = none ∧ len = 0 ∧ cap = 0 ∧ zs = []) ∨ ∃ x, a = some x ∧ len ≤ cap ∧ cap ≤ maxLen ∧ zs.length = cap ∧ (∀ i, i < zs.length → w.cell? (x.add i) = some (.int .i64 (zs.getD i 0))) ∧ ∀ n ∈ zs, (Lit.int .i64 n).wf = true) : Mds w a len (fun i => zs.getD i 0) := by
  intro i hi
  rcases h with ⟨rfl, rfl, rfl, rfl⟩ | ⟨x, rfl, h1, h2, hz, hc, hwf⟩
  · omega
  · obtain ⟨b, off, spot⟩ := x
    have hspot : spot = none := by
      have h0 := hc 0 (by omega)
      simpa [Addr.add] using World.cell?_spot h0
    subst hspot
    exact ⟨b, off, rfl, by rw [← Go.WideShapes.add_plain]; exact hc i (by omega)⟩
theorem mds_some {w : World} {a : Option Addr} {m : Nat} {md : Nat → Int} (h : Mds w a m md) (hm : 0 < m) : ∃ b off, a = some ⟨b, off, none⟩ := by
  obtain ⟨b, off, e, _⟩ := h 0 hm
  exact ⟨b, off, e⟩
end Go.Proofs.Ytnfokdcoelignaa.LInp
