/- Contracts: table.Colors beside the document's Colors: one answer. Conditions: the pixels are at most 3000. -/
import Derived.Test.YtflmlbdcjjldgaaTRco
import Derived.Test.YtflmlbdcjjldgaaPRfn
import Derived.Test.YtflmlbdcjjldgaaTLea
namespace Go.Proofs.Ytflmlbdcjjldgaa.TCth
set_option linter.unusedVariables false
open Go.ChangeShapes Go.WideShapes Go.ChangeAt Go.RowKit Go.Sort Go.Proofs.Ytflmlbdcjjldgaa.Core Go.Proofs.Ytflmlbdcjjldgaa.PNum Go.Proofs.Ytflmlbdcjjldgaa.PGoo Go.Proofs.Ytflmlbdcjjldgaa.Ims Go.Proofs.Ytflmlbdcjjldgaa.TSet Go.Proofs.Ytflmlbdcjjldgaa.TCol Go.Proofs.Ytflmlbdcjjldgaa.TLst Go.Proofs.Ytflmlbdcjjldgaa.TRco

/-- One list and one yes or no of two functions. -/
def AgreeC (A : Array Value) (w0 : World) : Prop :=
  ∃ (ok : Bool) (L : Nat) (f : Nat → Nat), L ≤ 1000 ∧
    (∀ w, Below w0.heap.size w0 w → Calls Try.prog 9 A w fun e w' => ∃ a c, e = .returned (.tuple #[.slice a L c, .bool ok]) ∧ Lst w' (.slice a L c) L f ∧ Below w.heap.size w w') ∧
    (∀ w, Below w0.heap.size w0 w → Calls Try.prog 10 A w fun e w' => ∃ a c, e = .returned (.tuple #[.slice a L c, .bool ok]) ∧ Lst w' (.slice a L c) L f ∧ Below w.heap.size w w')
theorem agreeC {w : World} {W H : Int} {a : Option Addr} {n c : Nat} {zs : List Int}
    (h : (a = none ∧ n = 0 ∧ c = 0 ∧ zs = []) ∨ ∃ x, a = some x ∧ n ≤ c ∧ c ≤ maxLen ∧ zs.length = c ∧ (∀ i, i < zs.length → w.cell? (x.add i) = some (.int .u32 (zs.getD i 0))) ∧ ∀ n ∈ zs, (Lit.int .u32 n).wf = true) (hn : n ≤ 3000) :
    AgreeC #[.agg #[.int .i64 W, .int .i64 H, .slice a n c]] w := by
  rcases Bool.eq_false_or_eq_true (gdV W H n) with hg | hg
  · obtain ⟨b, off, z, W, H, rfl, rfl, rfl, I, hW1, hH1, zb⟩ := img_of h hg
    by_cases hl : (ds z n).length ≤ 256
    · refine ⟨true, (ds z n).length, fun j => (ds z n).getD j 0, by omega, fun w1 u => ?_, fun w1 u => ?_⟩
      · refine (colors9 c (I.below u) zb hW1 hH1 (by omega)).mono fun e w' hk => ?_
        unfold ColV at hk
        rw [if_pos hl] at hk
        obtain ⟨g, cap, he, hp, _, hb⟩ := hk
        exact ⟨_, _, he, lst_of_pixs hp.pixs, hb⟩
      · refine (rcolors10 c (I.below u) zb hW1 hH1 (by omega)).mono fun e w' hk => ?_
        unfold RColV at hk
        rw [if_pos hl] at hk
        exact hk
    · refine ⟨false, 0, fun _ => 0, by omega, fun w1 u => ?_, fun w1 u => ?_⟩
      · refine (colors9 c (I.below u) zb hW1 hH1 (by omega)).mono fun e w' hk => ?_
        unfold ColV at hk
        rw [if_neg hl] at hk
        exact ⟨_, _, hk.1, .inl ⟨rfl, rfl⟩, hk.2⟩
      · refine (rcolors10 c (I.below u) zb hW1 hH1 (by omega)).mono fun e w' hk => ?_
        unfold RColV at hk
        rw [if_neg hl] at hk
        exact ⟨_, _, hk.1, .inl ⟨rfl, rfl⟩, hk.2⟩
  · exact ⟨false, 0, fun _ => 0, by omega, fun w1 u => (colors9_no a n c w1 hg).mono fun e w' hk => ⟨_, _, hk.1, .inl ⟨rfl, rfl⟩, hk.2⟩, fun w1 u => (rcolors10_no a n c w1 hg).mono fun e w' hk => ⟨_, _, hk.1, .inl ⟨rfl, rfl⟩, hk.2⟩⟩
end Go.Proofs.Ytflmlbdcjjldgaa.TCth
