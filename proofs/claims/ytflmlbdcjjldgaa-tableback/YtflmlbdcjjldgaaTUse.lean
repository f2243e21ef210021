/- Contracts: Colors and Pack of pictures that may be, told apart. Conditions: the pixels are at most 60000. -/
import Derived.Test.YtflmlbdcjjldgaaTAns
import Derived.Test.YtflmlbdcjjldgaaTFin
namespace Go.Proofs.Ytflmlbdcjjldgaa.TUse
set_option linter.unusedVariables false
open Go.ChangeShapes Go.WideShapes Go.ChangeAt Go.RowKit Go.Sort Go.Proofs.Ytflmlbdcjjldgaa.Core Go.Proofs.Ytflmlbdcjjldgaa.LBlk Go.Proofs.Ytflmlbdcjjldgaa.PNum Go.Proofs.Ytflmlbdcjjldgaa.PGoo Go.Proofs.Ytflmlbdcjjldgaa.Ims Go.Proofs.Ytflmlbdcjjldgaa.TNum Go.Proofs.Ytflmlbdcjjldgaa.TPkn Go.Proofs.Ytflmlbdcjjldgaa.TSet Go.Proofs.Ytflmlbdcjjldgaa.TCol Go.Proofs.Ytflmlbdcjjldgaa.TPak Go.Proofs.Ytflmlbdcjjldgaa.TUnp Go.Proofs.Ytflmlbdcjjldgaa.TFin

theorem col_yes {W H b off n : Nat} {z : Nat → Nat} (c : Nat) {w : World} (I : Img w W H b off n z) (hz : ∀ i, i < n → z i < 4294967296) (h1 : 1 ≤ W) (h2 : 1 ≤ H) (hn : n ≤ 60000) (hl : (ds z n).length ≤ 256) :
    Calls Try.prog 9 #[.agg #[.int .i64 W, .int .i64 H, .slice (some ⟨b, off, none⟩) n c]] w fun e w' => ∃ g cap, e = .returned (.tuple #[.slice (some ⟨g, 0, none⟩) (ds z n).length cap, .bool true]) ∧ Pow w' g (ds z n).length (ct z n) ∧ Below w.heap.size w w' :=
  (colors9 c I hz h1 h2 hn).mono fun e w' hk => by
    unfold ColV at hk
    rw [if_pos hl] at hk
    obtain ⟨g, cap, he, hp, _, hb⟩ := hk
    exact ⟨g, cap, he, hp, hb⟩
theorem col_no {W H b off n : Nat} {z : Nat → Nat} (c : Nat) {w : World} (I : Img w W H b off n z) (hz : ∀ i, i < n → z i < 4294967296) (h1 : 1 ≤ W) (h2 : 1 ≤ H) (hn : n ≤ 60000) (hl : ¬ (ds z n).length ≤ 256) :
    Calls Try.prog 9 #[.agg #[.int .i64 W, .int .i64 H, .slice (some ⟨b, off, none⟩) n c]] w fun e w' => e = .returned (.tuple #[.slice none 0 0, .bool false]) ∧ Below w.heap.size w w' :=
  (colors9 c I hz h1 h2 hn).mono fun e w' hk => by
    unfold ColV at hk
    rw [if_neg hl] at hk
    exact hk
theorem pak_yes {W H b off m tb n : Nat} {z t : Nat → Nat} (c c' : Nat) {w : World} (I : Img w W H b off m z) (hz : ∀ i, i < m → z i < 4294967296) (h1 : 1 ≤ W) (h2 : 1 ≤ H) (hm : m ≤ 60000)
    (T : Pow w tb n t) (htt : ∀ i, i < n → t i < 4294967296) (t1 : 1 ≤ n) (t2 : n ≤ 256) (hf : ∀ i, i < m → nm t n (z i) < n) :
    Calls Try.prog 17 #[.agg #[.int .i64 W, .int .i64 H, .slice (some ⟨b, off, none⟩) m c], .slice (some ⟨tb, 0, none⟩) n c'] w fun e w' =>
      ∃ g, e = .returned (.tuple #[.agg #[.int .i64 (bl W (bv n)), .int .i64 H, .slice (some ⟨g, 0, none⟩) (bl W (bv n) * H) (bl W (bv n) * H)], .int .i64 0]) ∧ Gives w (bl W (bv n) * H) g (pk t n z W (bv n) m) w' :=
  (pack17 c c' I hz h1 h2 hm T.pixs htt t1 t2).mono fun e w' hk => by
    unfold PakV at hk
    rw [if_pos hf] at hk
    exact hk
end Go.Proofs.Ytflmlbdcjjldgaa.TUse
