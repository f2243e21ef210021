/- Plain facts: two images whose pixels grow beside each other; bytes in memory; pixels of four by shifting. No conditions. -/
import Derived.Test.YtflmlbdcjjldgaaKNum
import Derived.Test.YtflmlbdcjjldgaaIApp
namespace Go.Proofs.Ytflmlbdcjjldgaa.KTwo
set_option linter.unusedVariables false
open Go.ChangeShapes Go.WideShapes Go.ChangeAt Go.RowKit Go.Sort Go.Proofs.Ytflmlbdcjjldgaa.Core Go.Proofs.Ytflmlbdcjjldgaa.PNum Go.Proofs.Ytflmlbdcjjldgaa.PPrt Go.Proofs.Ytflmlbdcjjldgaa.XNum Go.Proofs.Ytflmlbdcjjldgaa.Ims Go.Proofs.Ytflmlbdcjjldgaa.IApp Go.Proofs.Ytflmlbdcjjldgaa.KNum

/-- Bytes in memory, from one place on. -/
def Byts (w : World) (b off n : Nat) (f : Nat → Nat) : Prop := ∀ i, i < n → w.cell? ⟨b, off + i, none⟩ = some (.int .u8 (f i))
theorem Byts.below {w w' : World} {b off n : Nat} {f : Nat → Nat} (h : Byts w b off n f) (u : Below w.heap.size w w') : Byts w' b off n f := fun i hi =>
  (u.cell (p := ⟨b, off + i, none⟩) (lt_of_cell (h i hi))).trans (h i hi)
theorem byt_of {w : World} {a : Option Addr} {len cap : Nat} {zs : List Int} (h : (a = none ∧ len = 0 ∧ cap = 0 ∧ zs = []) ∨ ∃ x, a = some x ∧ len ≤ cap ∧ cap ≤ maxLen ∧ zs.length = cap ∧ (∀ i, i < zs.length → w.cell? (x.add i) = some (.int .u8 (zs.getD i 0))) ∧ ∀ n ∈ zs, (Lit.int .u8 n).wf = true) (h0 : 0 < len) :
    ∃ b off, ∃ f : Nat → Nat, a = some ⟨b, off, none⟩ ∧ Byts w b off len f ∧ ∀ i, i < len → f i < 256 := by
  rcases h with ⟨rfl, rfl, rfl, rfl⟩ | ⟨x, rfl, h1, h2, hz, hc, hwf⟩
  · omega
  · obtain ⟨b, off, spot⟩ := x
    have hspot : spot = none := by
      have h0 := hc 0 (by omega)
      simpa [Addr.add] using World.cell?_spot h0
    subst hspot
    have hb : ∀ i, i < len → 0 ≤ zs.getD i 0 ∧ zs.getD i 0 ≤ 255 := fun i hi => bounds_u8 (hwf (zs.getD i 0) (by rw [List.getD_eq_getElem?_getD, List.getElem?_eq_getElem (by omega)]; exact List.getElem_mem _))
    refine ⟨b, off, fun i => (zs.getD i 0).toNat, rfl, fun i hi => ?_, fun i hi => ?_⟩
    · rw [← Go.WideShapes.add_plain, hc i (by omega)]
      show some (Value.int .u8 (zs.getD i 0)) = some (Value.int .u8 ((zs.getD i 0).toNat : Int))
      rw [Int.toNat_of_nonneg (hb i hi).1]
    · have := hb i hi
      show (zs.getD i 0).toNat < 256
      omega
/-- Grey, and red with half of it as blue, and green alone. -/
def gyV (a : Nat) (f : Nat → Nat) (i : Nat) : Nat := mk4 a (f i) (f i) (f i)
def rbV (a : Nat) (f : Nat → Nat) (i : Nat) : Nat := mk4 a (f i) 0 (f i / 2)
theorem join_gy {a g : Nat} (ha : a < 256) (hg : g < 256) : bits .or .u32 (bits .or .u32 (bits .or .u32 ((a : Int) * 16777216) ((g : Int) * 65536)) ((g : Int) * 256)) (g : Int) = ((mk4 a g g g : Nat) : Int) := join4 a g g g ha hg hg hg
theorem join_rb {a g q : Nat} (ha : a < 256) (hg : g < 256) (hq : q < 256) : bits .or .u32 (bits .or .u32 ((a : Int) * 16777216) ((g : Int) * 65536)) (q : Int) = ((mk4 a g 0 q : Nat) : Int) := by
  have e1 : bits .or .u32 ((a : Int) * 16777216) ((g : Int) * 65536) = ((a * 16777216 + g * 65536 : Nat) : Int) := by
    rw [u32_or _ _ (by omega) (by omega) (by omega) (by omega), nat_join 24 _ _ (by omega) (by omega)]; omega
  rw [e1, u32_or _ _ (by omega) (by omega) (by omega) (by omega), nat_join 8 _ _ (by omega) (by omega)]
  unfold mk4
  omega
theorem join_g {a g : Nat} (ha : a < 256) (hg : g < 256) : bits .or .u32 ((a : Int) * 16777216) ((g : Int) * 256) = ((mk4 a 0 g 0 : Nat) : Int) := by
  rw [u32_or _ _ (by omega) (by omega) (by omega) (by omega), nat_join 24 _ _ (by omega) (by omega)]
  unfold mk4
  omega
/-- Two images of one row, whose pixels grow in blocks that they do not share. -/
structure Two (w : World) (n : Nat) (f g : Nat → Nat) (va vb : Value) (j : Nat) (wr : World) : Prop where
  bm : Box wr w.heap.size 24 #[.int .i64 n, .int .i64 1, va]
  bn : Box wr (w.heap.size + 1) 24 #[.int .i64 n, .int .i64 1, vb]
  oa : wr.ownsRow (w.heap.size + 2) 31 1 va j (pcells f j)
  ob : wr.ownsRow (w.heap.size + 2) 31 1 vb j (pcells g j)
  ne : vb.ownBlock = none ∨ vb.ownBlock ≠ va.ownBlock
  bel : Below w.heap.size w wr
theorem Two.start (w : World) (n : Nat) (f g : Nat → Nat) : Two w n f g (.slice none 0 0) (.slice none 0 0) 0 ((w.alloc (.cells #[.int .i64 n, .int .i64 1, .slice none 0 0] 24)).alloc (.cells #[.int .i64 n, .int .i64 1, .slice none 0 0] 24)) :=
  have h := two_boxes w #[.int .i64 n, .int .i64 1, .slice none 0 0] #[.int .i64 n, .int .i64 1, .slice none 0 0] 24 24
  ⟨h.1, h.2, World.ownsRow_nil _ _ _ _, World.ownsRow_nil _ _ _ _, .inl rfl, bel_a2 w _ _⟩
theorem ne_flip {a b : Option Nat} (h : b = none ∨ b ≠ a) : a = none ∨ a ≠ b := by
  rcases h with rfl | h
  · cases a <;> simp
  · exact .inr fun e => h e.symm
/-- One pixel more of the first. -/
structure Mid (w : World) (n : Nat) (f g : Nat → Nat) (va vb : Value) (j : Nat) (wr : World) : Prop where
  bm : Box wr w.heap.size 24 #[.int .i64 n, .int .i64 1, va]
  bn : Box wr (w.heap.size + 1) 24 #[.int .i64 n, .int .i64 1, vb]
  oa : wr.ownsRow (w.heap.size + 2) 31 1 va (j + 1) (pcells f (j + 1))
  ob : wr.ownsRow (w.heap.size + 2) 31 1 vb j (pcells g j)
  ne : vb.ownBlock = none ∨ vb.ownBlock ≠ va.ownBlock
  bel : Below w.heap.size w wr
theorem Two.kept {w wr w1 : World} {n : Nat} {f g : Nat → Nat} {j : Nat} {va vb : Value} {o : Obj} (h : Two w n f g va vb j wr) (gr : (wr.alloc o).grownBy w1 va.ownBlock) :
    Box w1 w.heap.size 24 #[.int .i64 n, .int .i64 1, va] ∧ Box w1 (w.heap.size + 1) 24 #[.int .i64 n, .int .i64 1, vb] := by
  have l0 := h.bm.lt
  have l1 := h.bn.lt
  exact ⟨(gr.block w.heap.size (by simp; omega) (fun e => by have := (h.oa.lt _ e.symm).1; omega)).trans (h.bm.alloc o), (gr.block (w.heap.size + 1) (by simp; omega) (fun e => by have := (h.oa.lt _ e.symm).1; omega)).trans (h.bn.alloc o)⟩
theorem Two.mid {w wr w1 : World} {n : Nat} {f g : Nat → Nat} {j : Nat} {va va' vb : Value} {o : Obj} {x : Int} (h : Two w n f g va vb j wr) (own : w1.ownsRow (w.heap.size + 2) 31 1 va' (j + 1) (pcells f j ++ [.int .u32 x])) (gr : (wr.alloc o).grownBy w1 va.ownBlock)
    (at1 : va'.ownBlock = va.ownBlock ∨ va'.ownBlock = some (wr.alloc o).heap.size) (hx : x = f j) : Mid w n f g va' vb j (w1.setCell ⟨w.heap.size, 2, none⟩ va') := by
  subst hx
  have k := h.kept gr
  refine ⟨k.1.set 2 va', k.2.other (p := ⟨w.heap.size, 2, none⟩) (by simp) _, own_other (p := ⟨w.heap.size, 2, none⟩) (by rw [pcells_succ]; exact own) (by simp) _, own_other (p := ⟨w.heap.size, 2, none⟩) ((h.ob.alloc o).kept gr h.ne) (by simp) _, ?_,
    ((h.bel.alloc h.bel.size o).grown gr (by have := h.bel.size; simp; omega) (fun k e => by have := (h.oa.lt k e).1; omega)).setCell (p := ⟨w.heap.size, 2, none⟩) (Nat.le_refl _) _⟩
  rcases at1 with e | e
  · rw [e]; exact h.ne
  · rw [e]
    refine .inr fun e2 => ?_
    have := (h.ob.lt _ e2).2
    simp at this
    omega
theorem Mid.kept {w wr w1 : World} {n : Nat} {f g : Nat → Nat} {j : Nat} {va vb : Value} {o : Obj} (h : Mid w n f g va vb j wr) (gr : (wr.alloc o).grownBy w1 vb.ownBlock) :
    Box w1 w.heap.size 24 #[.int .i64 n, .int .i64 1, va] ∧ Box w1 (w.heap.size + 1) 24 #[.int .i64 n, .int .i64 1, vb] := by
  have l0 := h.bm.lt
  have l1 := h.bn.lt
  exact ⟨(gr.block w.heap.size (by simp; omega) (fun e => by have := (h.ob.lt _ e.symm).1; omega)).trans (h.bm.alloc o), (gr.block (w.heap.size + 1) (by simp; omega) (fun e => by have := (h.ob.lt _ e.symm).1; omega)).trans (h.bn.alloc o)⟩
theorem Mid.next {w wr w1 : World} {n : Nat} {f g : Nat → Nat} {j : Nat} {va vb vb' : Value} {o : Obj} {x : Int} (h : Mid w n f g va vb j wr) (own : w1.ownsRow (w.heap.size + 2) 31 1 vb' (j + 1) (pcells g j ++ [.int .u32 x])) (gr : (wr.alloc o).grownBy w1 vb.ownBlock)
    (at1 : vb'.ownBlock = vb.ownBlock ∨ vb'.ownBlock = some (wr.alloc o).heap.size) (hx : x = g j) : Two w n f g va vb' (j + 1) (w1.setCell ⟨w.heap.size + 1, 2, none⟩ vb') := by
  subst hx
  have k := h.kept gr
  refine ⟨k.1.other (p := ⟨w.heap.size + 1, 2, none⟩) (by simp) _, k.2.set 2 vb', own_other (p := ⟨w.heap.size + 1, 2, none⟩) ((h.oa.alloc o).kept gr (ne_flip h.ne)) (by simp) _, own_other (p := ⟨w.heap.size + 1, 2, none⟩) (by rw [pcells_succ]; exact own) (by simp) _, ?_,
    ((h.bel.alloc h.bel.size o).grown gr (by have := h.bel.size; simp; omega) (fun k e => by have := (h.ob.lt k e).1; omega)).setCell (p := ⟨w.heap.size + 1, 2, none⟩) (by simp) _⟩
  rcases at1 with e | e
  · rw [e]; exact h.ne
  · rw [e]
    refine .inr fun e2 => ?_
    have := (h.oa.lt _ e2.symm).2
    simp at this
    omega
end Go.Proofs.Ytflmlbdcjjldgaa.KTwo
