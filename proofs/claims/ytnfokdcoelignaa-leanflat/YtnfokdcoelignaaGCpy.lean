/- Plain facts: a copy of pixels by append, and that At hangs on earlier pixels alone. Conditions: as each says. -/
import Derived.Test.YtnfokdcoelignaaGRat
import Derived.Deep.RegionLaw
import Derived.Deep.RegionHeld3
import Derived.Laws.AppendOwnNone
import Derived.Deep.CutRange
namespace Go.Proofs.Ytnfokdcoelignaa.GCpy
open Go.ChangeShapes Go.WideShapes Go.ChangeAt Go.RowKit Go.Sort Go.Proofs.Ytnfokdcoelignaa.Core Go.Proofs.Ytnfokdcoelignaa.PNum Go.Proofs.Ytnfokdcoelignaa.PPrt Go.Proofs.Ytnfokdcoelignaa.PFun Go.Proofs.Ytnfokdcoelignaa.PGoo Go.Proofs.Ytnfokdcoelignaa.GGue Go.Proofs.Ytnfokdcoelignaa.GImg Go.Proofs.Ytnfokdcoelignaa.GAro Go.Proofs.Ytnfokdcoelignaa.GAtt Go.Proofs.Ytnfokdcoelignaa.GRar

def pcells (z : Nat → Nat) (n : Nat) : List Value := (List.range n).map fun k => .int .u32 (z k)
theorem pcells_len (z : Nat → Nat) (n : Nat) : (pcells z n).length = n := by simp [pcells]
theorem pcells_at (z : Nat → Nat) (n k : Nat) (h : k < n) : (pcells z n)[k]? = some (.int .u32 (z k)) := by simp [pcells, h]
theorem news_of {w : World} {b off n : Nat} {z : Nat → Nat} (h : Pixs w b off n z) : ∀ j u, (pcells z n)[j]? = some u → w.cell? ((⟨b, off, none⟩ : Addr).add j) = some u := by
  intro j u hu
  have hj : j < n := by
    have := (List.getElem?_eq_some_iff.1 hu).1
    rwa [pcells_len] at this
  rw [pcells_at z n j hj] at hu
  rw [Go.WideShapes.add_plain, h j hj]
  exact hu
theorem info22 : (Try.prog.info? 38).map (fun i => (i.zero, i.size, i.bytes)) = some (some (.int .u32 0), 1, 4) := by kernel_rfl
/-- n pixels in a block of one's own, none frozen. -/
def Pow (w : World) (g n : Nat) (z : Nat → Nat) : Prop := ∀ i, i < n → w.cell? ⟨g, i, none⟩ = some (.int .u32 (z i)) ∧ w.frozen? ⟨g, i, none⟩ = false
theorem Pow.congr {w : World} {g n : Nat} {z z' : Nat → Nat} (h : Pow w g n z) (e : ∀ i, i < n → z i = z' i) : Pow w g n z' := fun i hi => by rw [← e i hi]; exact h i hi
theorem Pow.set {w : World} {g n : Nat} {z : Nat → Nat} (h : Pow w g n z) (k v : Nat) : Pow (w.setCell ⟨g, k, none⟩ (.int .u32 v)) g n (fun j => if j = k then v else z j) := fun i hi => by
  refine ⟨?_, by rw [World.frozen?_setCell]; exact (h i hi).2⟩
  by_cases e : i = k
  · subst e
    simp only [if_true]
    exact World.cell?_setCell_same _ _ _ (h i hi).1
  · simp only [if_neg e]
    rw [World.cell?_setCell_other _ _ _ _ (fun h => e (by cases h; rfl))]
    exact (h i hi).1
theorem Pow.below {w w' : World} {g n : Nat} {z : Nat → Nat} (h : Pow w g n z) (u : Below w.heap.size w w') : Pow w' g n z := fun i hi =>
  have hl := lt_of_cell (h i hi).1
  ⟨(u.cell (p := ⟨g, i, none⟩) hl).trans (h i hi).1, (u.frozen (p := ⟨g, i, none⟩) hl).trans (h i hi).2⟩
theorem Pow.pixs {w : World} {g n : Nat} {z : Nat → Nat} (h : Pow w g n z) : Pixs w g 0 n z := fun i hi => by rw [Nat.zero_add]; exact (h i hi).1
theorem own_pow {w : World} {base n : Nat} {v : Value} {z : Nat → Nat} (h : w.ownsRow base 38 1 v n (pcells z n)) (hn : 0 < n) :
    ∃ g cap, v = .slice (some ⟨g, 0, none⟩) n cap ∧ Pow w g n z ∧ base ≤ g ∧ g < w.heap.size := by
  have hl := h.lt
  rcases h.2 with ⟨_, h0⟩ | ⟨g, cap, cur, rfl, _, _, h3, _⟩
  · omega
  · exact ⟨g, cap, rfl, fun k hk => ⟨(h.cellAt k (by omega)).trans (pcells_at z _ k hk), h.frozenAt k⟩, (hl g rfl).1, (hl g rfl).2⟩
theorem step_copy {ops : Array Oper} {o : Oper} {a : Act} {w : World} {K : Act → World → Prop} {Q : Exit → Act → World → Prop} {E : Prop}
    (hg : o.guard = none) (s x : Operand) (hop : o.op = Op.call { callee := Callee.builtin Builtin.append, args := #[s, x], argTypes := #[22, 22] })
    (y : Nat) (hs : a.eval s = .slice (some ⟨y, 0, none⟩) 0 0) (b off m c : Nat) (z : Nat → Nat) (hx : a.eval x = .slice (some ⟨b, off, none⟩) m c)
    (src : Pixs w b off m z) (hm : 0 < m) (hn : m ≤ 1000000)
    (hK : ∀ v' w', w'.ownsRow w.heap.size 38 1 v' m (pcells z m) → w.grownBy w' none → K (a.put o.dst v') w') :
    if Region.wanted o (yielded ops a.tmps) = true then Oper.wp Try.prog o a w K Q else E := by
  have hw : Region.wanted o (yielded ops a.tmps) = true := by simp [Region.wanted, hg]
  rw [if_pos hw]
  obtain ⟨i0, hi, hz0, hz1, hz2⟩ := info_parts info22
  obtain ⟨v', w', hr, r1, r2⟩ := run_append_arg_grows (P := Try.prog) w 22 o.type 38 i0 (.int .u32 0) 1 4 Try.underlying22 hi hz0 hz1 hz2 rfl (by decide) ⟨y, 0, none⟩ 0 0 [] rfl (fun j u hu => by simp at hu) ⟨b, off, none⟩ m c (pcells z m) (by rw [pcells_len, Nat.mul_one]) (news_of src) (by omega) (by unfold maxLen; omega) (by omega)
  unfold Oper.wp
  simp [execOp, hop, resolve, invoke, builtin, hs, hx, hr, Result.andThen]
  rw [Nat.zero_add, List.nil_append] at r1
  exact hK v' w' r1 r2
theorem bel_gr {B : Nat} {w w1 w' : World} (h : Below B w w1) (g : w1.grownBy w' none) (hB : B ≤ w1.heap.size) : Below B w w' := h.grown g hB (fun k e => by cases e)
/-- A copy of an image, and where it lies. -/
structure Cpy (w : World) (W H n : Nat) (z : Nat → Nat) (v : Value) (wx : World) : Prop where
  ex : ∃ g c g', v = .pointer (some ⟨g, 0, none⟩) ∧ Box wx g 24 #[.int .i64 W, .int .i64 H, .slice (some ⟨g', 0, none⟩) n c] ∧ Pow wx g' n z ∧ g ≠ g' ∧ w.heap.size ≤ g ∧ w.heap.size ≤ g'
  bel : Below w.heap.size w wx
theorem cpy_mk {w w1 : World} {W H n g c : Nat} {z : Nat → Nat} (hp : Pow w1 g n z) (h1 : w.heap.size ≤ g) (h2 : g < w1.heap.size) (b : Below w.heap.size w w1) :
    Cpy w W H n z (.pointer (some ⟨w1.heap.size, 0, none⟩)) (w1.alloc (.cells #[.int .i64 W, .int .i64 H, .slice (some ⟨g, 0, none⟩) n c] 24)) :=
  ⟨⟨_, c, g, rfl, Box.made _ _ _, hp.below ((Below.refl _ _).alloc (Nat.le_refl _) _), by omega, b.size, h1⟩, b.alloc b.size _⟩
/-- A struct's cells ahead of the first store. -/
def zer : Array Value := #[.int .i64 0, .int .i64 0, .slice none 0 0]
theorem bel_dr {B : Nat} {w w1 : World} (h : Below B w w1) : Below B w w1.drew := ⟨h.os, h.tape, h.output, h.size, h.block⟩
theorem bel_a1 (w : World) (o : Obj) : Below w.heap.size w (w.alloc o) := (Below.refl _ w).alloc (Nat.le_refl _) o
theorem bel_a2 (w : World) (o o' : Obj) : Below w.heap.size w ((w.alloc o).alloc o') := (bel_a1 w o).alloc (by simp) o'
theorem grown_box {w w' : World} {g : Nat} {T : TypeId} {vs : Array Value} (h : Box w g T vs) (gr : w.grownBy w' none) : Box w' g T vs := (gr.block g h.lt (by simp)).trans h
theorem box_a {w w4 : World} {E : Array Value} {T : TypeId} {vs : Array Value} (gr : (((w.alloc (.cells E T)).alloc (.cells vs 24)).drew).grownBy w4 none) : Box w4 (w.heap.size + 1) 24 vs := by
  have h := Box.made (w.alloc (.cells E T)) 24 vs
  rw [show (w.alloc (.cells E T)).heap.size = w.heap.size + 1 by simp] at h
  exact grown_box (w := ((w.alloc (.cells E T)).alloc (.cells vs 24)).drew) h gr
theorem box_b {w w4 : World} {E : Array Value} {T : TypeId} {vs : Array Value} (gr : (((w.alloc (.cells vs 24)).alloc (.cells E T)).drew).grownBy w4 none) : Box w4 w.heap.size 24 vs :=
  grown_box (w := ((w.alloc (.cells vs 24)).alloc (.cells E T)).drew) ((Box.made w 24 vs).alloc _) gr
theorem box_cells {w : World} {g : Nat} {x y s : Value} (h : Box w g 24 #[x, y, s]) :
    (w.cell? ⟨g, 0, none⟩ = some x ∧ w.cell? ⟨g, 1, none⟩ = some y ∧ w.cell? ⟨g, 2, none⟩ = some s) ∧ w.frozen? ⟨g, 0, none⟩ = false ∧ w.frozen? ⟨g, 1, none⟩ = false ∧ w.frozen? ⟨g, 2, none⟩ = false :=
  ⟨⟨(h.cell 0).trans rfl, (h.cell 1).trans rfl, (h.cell 2).trans rfl⟩, h.free 0, h.free 1, h.free 2⟩
theorem Pow.other {w : World} {g n : Nat} {z : Nat → Nat} (h : Pow w g n z) {p : Addr} (hp : g ≠ p.block) (v : Value) : Pow (w.setCell p v) g n z := fun i hi =>
  ⟨(World.cell?_of_block (w := w) (a := ⟨g, i, none⟩) (Below.heap_setCell _ _ _ _ hp)).trans (h i hi).1, (World.frozen?_of_block (w := w) (a := ⟨g, i, none⟩) (Below.heap_setCell _ _ _ _ hp)).trans (h i hi).2⟩
theorem cell_other {w : World} {p a : Addr} (hp : p.block ≠ a.block) (v : Value) : (w.setCell a v).cell? p = w.cell? p := World.cell?_of_block (w := w) (Below.heap_setCell _ _ _ _ hp)
theorem keep3 {w : World} {N g : Nat} {x y s a b c : Value} (hg : g ≠ N) (h : w.cell? ⟨g, 0, none⟩ = some x ∧ w.cell? ⟨g, 1, none⟩ = some y ∧ w.cell? ⟨g, 2, none⟩ = some s) :
    (((w.setCell ⟨N, 0, none⟩ a).setCell ⟨N, 1, none⟩ b).setCell ⟨N, 2, none⟩ c).cell? ⟨g, 0, none⟩ = some x ∧ (((w.setCell ⟨N, 0, none⟩ a).setCell ⟨N, 1, none⟩ b).setCell ⟨N, 2, none⟩ c).cell? ⟨g, 1, none⟩ = some y ∧ (((w.setCell ⟨N, 0, none⟩ a).setCell ⟨N, 1, none⟩ b).setCell ⟨N, 2, none⟩ c).cell? ⟨g, 2, none⟩ = some s := by
  refine ⟨?_, ?_, ?_⟩
  · rw [cell_other hg, cell_other hg, cell_other hg]; exact h.1
  · rw [cell_other hg, cell_other hg, cell_other hg]; exact h.2.1
  · rw [cell_other hg, cell_other hg, cell_other hg]; exact h.2.2
theorem cpy_set {w w1 : World} {W H n g c N : Nat} {z : Nat → Nat} {x y s : Value} (hN : Box w1 N 24 #[x, y, s]) (hp : Pow w1 g n z) (hg : g ≠ N) (h1 : w.heap.size ≤ g) (h2 : w.heap.size ≤ N) (b : Below w.heap.size w w1) :
    Cpy w W H n z (.pointer (some ⟨N, 0, none⟩)) (((w1.setCell ⟨N, 0, none⟩ (.int .i64 W)).setCell ⟨N, 1, none⟩ (.int .i64 H)).setCell ⟨N, 2, none⟩ (.slice (some ⟨g, 0, none⟩) n c)) :=
  ⟨⟨N, c, g, rfl, ((hN.set 0 _).set 1 _).set 2 _, ((hp.other hg _).other hg _).other hg _, fun e => hg e.symm, h2, h1⟩,
    ((b.setCell (p := ⟨N, 0, none⟩) h2 _).setCell (p := ⟨N, 1, none⟩) h2 _).setCell (p := ⟨N, 2, none⟩) h2 _⟩
/-- At hangs on earlier pixels alone. -/
theorem at_ahead {W k : Nat} {z z' : Nat → Nat} (m : Int) {X Y : Nat} (hX : X < W) (hk : k = Y * W + X) (e : ∀ j, j < k → z j = z' j) : atV W z m X Y = atV W z' m X Y := by
  by_cases hx : X = 0
  · by_cases hy : Y = 0
    · rw [at_00 W z m hx hy, at_00 W z' m hx hy]
    · have := row_ge W Y hy
      rw [at_0y W z m hx hy, at_0y W z' m hx hy, tV, tV, if_neg hy, if_neg hy, e _ (by omega)]
  · have l : lV W z X Y = lV W z' X Y := by rw [lV, lV, if_neg hx, if_neg hx, e _ (by omega)]
    by_cases hy : Y = 0
    · rw [at_x0 W z m hx hy, at_x0 W z' m hx hy, l]
    · have := row_ge W Y hy
      have t : tV W z X Y = tV W z' X Y := by rw [tV, tV, if_neg hy, if_neg hy, e _ (by omega)]
      have u : uV W z X Y = uV W z' X Y := by rw [uV, uV, if_neg (by omega), if_neg (by omega), e _ (by omega)]
      have r : rV W z X Y = rV W z' X Y := by
        unfold rV
        by_cases h : X + 1 = W
        · rw [if_pos h, if_pos h, e _ (by omega)]
        · rw [if_neg h, if_neg h, if_neg hy, if_neg hy, e _ (by omega)]
      rw [at_xy W z m hx hy, at_xy W z' m hx hy, l, t, u, r]
end Go.Proofs.Ytnfokdcoelignaa.GCpy
