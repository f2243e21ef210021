/- Plain facts: images and their pixels in memory, no function of the program. No conditions. -/
import Derived.Test.YtflmlbdcjjldgaaPGoo
import Derived.Test.YtflmlbdcjjldgaaCNum
import Derived.Lib.QuietBelow
import Derived.Deep.RegionLaw
import Derived.Deep.RegionHeld3
import Derived.Laws.AppendOwnNone
import Derived.Laws.ResultCell
import Derived.Deep.CutRange
import Derived.Maps.AppendAt
namespace Go.Proofs.Ytflmlbdcjjldgaa.Ims
set_option linter.unusedVariables false
open Go.ChangeShapes Go.WideShapes Go.ChangeAt Go.RowKit Go.Sort Go.Proofs.Ytflmlbdcjjldgaa.Core Go.Proofs.Ytflmlbdcjjldgaa.PNum Go.Proofs.Ytflmlbdcjjldgaa.PGoo

theorem below_drew {b : Nat} {a w : World} (h : Below b a w) (n : Nat) : Below b a (w.drewN n) := ⟨h.os, h.tape, h.output, h.size, h.block⟩
/-- Pixels in memory, from one place on. -/
def Pixs (w : World) (b off n : Nat) (z : Nat → Nat) : Prop := ∀ i, i < n → w.cell? ⟨b, off + i, none⟩ = some (.int .u32 (z i))
theorem Pixs.lt {w : World} {b off n : Nat} {z : Nat → Nat} (h : Pixs w b off n z) (hn : 0 < n) : b < w.heap.size := lt_of_cell (h 0 hn)
theorem Pixs.below {w w' : World} {b off n : Nat} {z : Nat → Nat} (h : Pixs w b off n z) (u : Below w.heap.size w w') : Pixs w' b off n z := fun i hi =>
  (u.cell (p := ⟨b, off + i, none⟩) (lt_of_cell (h i hi))).trans (h i hi)
theorem Pixs.at {w : World} {b off n : Nat} {z : Nat → Nat} (h : Pixs w b off n z) {i j : Nat} (hi : i < n) (e : j = i) : w.cell? ⟨b, off + i, none⟩ = some (.int .u32 (z j)) := e ▸ h i hi
theorem keep_image {w0 w' : World} {g : Nat} {x y s : Value} (BX : Box w0 g 24 #[x, y, s]) (b : Below w0.heap.size w0 w') :
    w'.cell? ⟨g, 0, none⟩ = some x ∧ w'.cell? ⟨g, 1, none⟩ = some y ∧ w'.cell? ⟨g, 2, none⟩ = some s :=
  ⟨((BX.below b BX.lt).cell 0).trans rfl, ((BX.below b BX.lt).cell 1).trans rfl, ((BX.below b BX.lt).cell 2).trans rfl⟩
theorem below_two {a b c : World} (h : Below a.heap.size a b) (k : Below b.heap.size b c) : Below a.heap.size a c := h.trans (k.mono h.size)
theorem place_lt {W H X Y : Nat} (hx : X < W) (hy : Y < H) : Y * W + X < W * H := by
  have : (Y + 1) * W ≤ H * W := Nat.mul_le_mul_right _ hy
  rw [Nat.succ_mul] at this
  rw [Nat.mul_comm W H]
  omega
theorem size_le {W H : Nat} (hW : W ≤ 16384) (hH : H ≤ 16384) : W * H ≤ 268435456 := Nat.mul_le_mul hW hH
theorem row_wrap {W H Y : Nat} (hW : W ≤ 16384) (hH : H ≤ 16384) (hy : Y ≤ H) : IntKind.i64.wrap ((Y : Int) * (W : Int)) = ((Y * W : Nat) : Int) := by
  have l : Y * W ≤ 268435456 := Nat.mul_le_mul (Nat.le_trans hy hH) hW
  rw [← Int.natCast_mul]
  generalize Y * W = z at *
  simp [IntKind.wrap, IntKind.bits, IntKind.signed]; omega
/-- An image that may be, in memory. -/
structure Img (w : World) (W H b off n : Nat) (z : Nat → Nat) : Prop where
  hW : W ≤ 16384
  hH : H ≤ 16384
  hn : n = W * H
  px : Pixs w b off n z
theorem Img.below {w w' : World} {W H b off n : Nat} {z : Nat → Nat} (h : Img w W H b off n z) (u : Below w.heap.size w w') : Img w' W H b off n z := ⟨h.hW, h.hH, h.hn, h.px.below u⟩
theorem Pixs.congr {w : World} {b off n : Nat} {z z' : Nat → Nat} (h : Pixs w b off n z) (e : ∀ i, i < n → z i = z' i) : Pixs w b off n z' := fun i hi => by rw [← e i hi]; exact h i hi
def pcells (z : Nat → Nat) (n : Nat) : List Value := (List.range n).map fun k => .int .u32 (z k)
theorem pcells_len (z : Nat → Nat) (n : Nat) : (pcells z n).length = n := by simp [pcells]
theorem pcells_at (z : Nat → Nat) (n k : Nat) (h : k < n) : (pcells z n)[k]? = some (.int .u32 (z k)) := by simp [pcells, h]
theorem news_of {w : World} {b off n : Nat} {z : Nat → Nat} (h : Pixs w b off n z) : ∀ j u, (pcells z n)[j]? = some u → w.cell? ((⟨b, off, none⟩ : Addr).add j) = some u := by
  intro j u hu
  have hj : j < n := by
    have := (List.getElem?_eq_some_iff.1 hu).1
    rwa [pcells_len] at this
  rw [pcells_at z n j hj] at hu
  rw [Go.WideShapes.add_plain, h j hj]
  exact hu
theorem info22 : (Try.prog.info? 31).map (fun i => (i.zero, i.size, i.bytes)) = some (some (.int .u32 0), 1, 4) := by kernel_rfl
/-- n pixels in a block of one's own, none frozen. -/
def Pow (w : World) (g n : Nat) (z : Nat → Nat) : Prop := ∀ i, i < n → w.cell? ⟨g, i, none⟩ = some (.int .u32 (z i)) ∧ w.frozen? ⟨g, i, none⟩ = false
theorem Pow.congr {w : World} {g n : Nat} {z z' : Nat → Nat} (h : Pow w g n z) (e : ∀ i, i < n → z i = z' i) : Pow w g n z' := fun i hi => by rw [← e i hi]; exact h i hi
theorem Pow.set {w : World} {g n : Nat} {z : Nat → Nat} (h : Pow w g n z) (k v : Nat) : Pow (w.setCell ⟨g, k, none⟩ (.int .u32 v)) g n (fun j => if j = k then v else z j) := fun i hi => by
  refine ⟨?_, by rw [World.frozen?_setCell]; exact (h i hi).2⟩
  by_cases e : i = k
  · subst e
    simp only [if_true]
    exact World.cell?_setCell_same _ _ _ (h i hi).1
  · simp only [if_neg e]
    rw [World.cell?_setCell_other _ _ _ _ (fun h => e (by cases h; rfl))]
    exact (h i hi).1
theorem Pow.below {w w' : World} {g n : Nat} {z : Nat → Nat} (h : Pow w g n z) (u : Below w.heap.size w w') : Pow w' g n z := fun i hi =>
  have hl := lt_of_cell (h i hi).1
  ⟨(u.cell (p := ⟨g, i, none⟩) hl).trans (h i hi).1, (u.frozen (p := ⟨g, i, none⟩) hl).trans (h i hi).2⟩
theorem Pow.pixs {w : World} {g n : Nat} {z : Nat → Nat} (h : Pow w g n z) : Pixs w g 0 n z := fun i hi => by rw [Nat.zero_add]; exact (h i hi).1
theorem own_pow {w : World} {base n : Nat} {v : Value} {z : Nat → Nat} (h : w.ownsRow base 31 1 v n (pcells z n)) (hn : 0 < n) :
    ∃ g cap, v = .slice (some ⟨g, 0, none⟩) n cap ∧ Pow w g n z ∧ base ≤ g ∧ g < w.heap.size := by
  have hl := h.lt
  rcases h.2 with ⟨_, h0⟩ | ⟨g, cap, cur, rfl, _, _, h3, _⟩
  · omega
  · exact ⟨g, cap, rfl, fun k hk => ⟨(h.cellAt k (by omega)).trans (pcells_at z _ k hk), h.frozenAt k⟩, (hl g rfl).1, (hl g rfl).2⟩
theorem bel_gr {B : Nat} {w w1 w' : World} (h : Below B w w1) (g : w1.grownBy w' none) (hB : B ≤ w1.heap.size) : Below B w w' := h.grown g hB (fun k e => by cases e)
theorem bel_dr {B : Nat} {w w1 : World} (h : Below B w w1) : Below B w w1.drew := ⟨h.os, h.tape, h.output, h.size, h.block⟩
theorem bel_a1 (w : World) (o : Obj) : Below w.heap.size w (w.alloc o) := (Below.refl _ w).alloc (Nat.le_refl _) o
theorem bel_a2 (w : World) (o o' : Obj) : Below w.heap.size w ((w.alloc o).alloc o') := (bel_a1 w o).alloc (by simp) o'
theorem grown_box {w w' : World} {g : Nat} {T : TypeId} {vs : Array Value} (h : Box w g T vs) (gr : w.grownBy w' none) : Box w' g T vs := (gr.block g h.lt (by simp)).trans h
theorem box_cells {w : World} {g : Nat} {x y s : Value} (h : Box w g 24 #[x, y, s]) :
    (w.cell? ⟨g, 0, none⟩ = some x ∧ w.cell? ⟨g, 1, none⟩ = some y ∧ w.cell? ⟨g, 2, none⟩ = some s) ∧ w.frozen? ⟨g, 0, none⟩ = false ∧ w.frozen? ⟨g, 1, none⟩ = false ∧ w.frozen? ⟨g, 2, none⟩ = false :=
  ⟨⟨(h.cell 0).trans rfl, (h.cell 1).trans rfl, (h.cell 2).trans rfl⟩, h.free 0, h.free 1, h.free 2⟩
theorem Pow.other {w : World} {g n : Nat} {z : Nat → Nat} (h : Pow w g n z) {p : Addr} (hp : g ≠ p.block) (v : Value) : Pow (w.setCell p v) g n z := fun i hi =>
  ⟨(World.cell?_of_block (w := w) (a := ⟨g, i, none⟩) (Below.heap_setCell _ _ _ _ hp)).trans (h i hi).1, (World.frozen?_of_block (w := w) (a := ⟨g, i, none⟩) (Below.heap_setCell _ _ _ _ hp)).trans (h i hi).2⟩
theorem cell_other {w : World} {p a : Addr} (hp : p.block ≠ a.block) (v : Value) : (w.setCell a v).cell? p = w.cell? p := World.cell?_of_block (w := w) (Below.heap_setCell _ _ _ _ hp)
theorem gd_of {W H : Int} {n : Nat} (h : gdV W H n = true) : ∃ W' H' : Nat, W = W' ∧ H = H' ∧ 1 ≤ W' ∧ W' ≤ 16384 ∧ 1 ≤ H' ∧ H' ≤ 16384 ∧ n = W' * H' := by
  have k : 1 ≤ W ∧ W ≤ 16384 ∧ 1 ≤ H ∧ H ≤ 16384 ∧ (n : Int) = W * H := of_decide_eq_true h
  obtain ⟨W', rfl⟩ := Int.eq_ofNat_of_zero_le (a := W) (by omega)
  obtain ⟨H', rfl⟩ := Int.eq_ofNat_of_zero_le (a := H) (by omega)
  refine ⟨W', H', rfl, rfl, by omega, by omega, by omega, by omega, ?_⟩
  have := k.2.2.2.2
  rw [← Int.natCast_mul] at this
  omega
theorem gd_mk {W H n : Nat} (h1 : 1 ≤ W) (h2 : W ≤ 16384) (h3 : 1 ≤ H) (h4 : H ≤ 16384) (h5 : n = W * H) : gdV W H n = true := by
  refine decide_eq_true ⟨by omega, by omega, by omega, by omega, ?_⟩
  rw [← Int.natCast_mul]
  omega
theorem pow_row {w : World} {g n : Nat} (f : Nat → Nat) (h : Box w g 31 (CNum.row f n)) : Pow w g n f := fun i hi => ⟨(h.cell i).trans (CNum.row_at f n i hi), h.free i⟩
theorem three_boxes (w : World) (x y z : Array Value) (T U V : TypeId) : Box (((w.alloc (.cells x T)).alloc (.cells y U)).alloc (.cells z V)) (w.heap.size + 1) U y ∧ Box (((w.alloc (.cells x T)).alloc (.cells y U)).alloc (.cells z V)) (w.heap.size + 2) V z := by
  have h := Box.made (w.alloc (.cells x T)) U y
  rw [show (w.alloc (.cells x T)).heap.size = w.heap.size + 1 by simp] at h
  have k := Box.made ((w.alloc (.cells x T)).alloc (.cells y U)) V z
  rw [show ((w.alloc (.cells x T)).alloc (.cells y U)).heap.size = w.heap.size + 2 by simp] at k
  exact ⟨h.alloc _, k⟩
theorem bel_a3 (w : World) (o o' o'' : Obj) : Below w.heap.size w (((w.alloc o).alloc o').alloc o'') := (bel_a2 w o o').alloc (by simp; omega) o''
theorem two_boxes (w : World) (x y : Array Value) (T U : TypeId) : Box ((w.alloc (.cells x T)).alloc (.cells y U)) w.heap.size T x ∧ Box ((w.alloc (.cells x T)).alloc (.cells y U)) (w.heap.size + 1) U y := by
  refine ⟨(Box.made w T x).alloc _, ?_⟩
  have h := Box.made (w.alloc (.cells x T)) U y
  rw [show (w.alloc (.cells x T)).heap.size = w.heap.size + 1 by simp] at h
  exact h
theorem drewN_below (w : World) (n : Nat) : Below w.heap.size w (w.drewN n) := below_drew (Below.refl _ _) n
theorem results_row_tmp {P : Program} {fn : Func} {p u : Tmp} {ty : TypeId} (h : fn.results = #[.cell p ty, .tmp u]) (tmps : Array Value) (w : World) (g : Nat) (t : TypeId) (cs : Array Value) (fr : Nat × Nat) (d : TypeDesc)
    (hp : tmps.getD p undef = .pointer (some ⟨g, 0, none⟩)) (hg : w.heap[g]? = some (.cells cs t fr))
    (hu : P.underlying ty = some d) (hd : (match d with | .struct _ | .array _ _ => true | _ => false) = true) (hi : (P.info? ty).map (·.size) = some cs.size) :
    (results fn tmps).run P w = .ok (.tuple #[.agg cs, tmps.getD u undef]) w := by
  have hp' : tmps[p]?.getD undef = .pointer (some ⟨g, 0, none⟩) := by simpa using hp
  simp [results, h, hp', asAddr, run_loadVar_row w g t ty cs fr d hg hu hd hi]
theorem bel_into {w0 a b : World} (h : Below w0.heap.size w0 a) (k : Below a.heap.size a b) : Below w0.heap.size w0 b := h.trans (k.mono h.size)
theorem one_one (k : IntKind) (x : Int) : ∀ u ∈ [Value.int k x], u.oneCell' = true := by
  intro u hu; simp at hu; subst hu; rfl
theorem pcells_succ (z : Nat → Nat) (n : Nat) : pcells z (n + 1) = pcells z n ++ [.int .u32 (z n)] := by
  simp [pcells, List.range_succ]
theorem own_other {w : World} {base n : Nat} {e : TypeId} {v : Value} {xs : List Value} (h : w.ownsRow base e 1 v n xs) {p : Addr} (hp : p.block < base) (u : Value) : (w.setCell p u).ownsRow base e 1 v n xs := by
  refine ⟨h.1, ?_⟩
  rcases h.2 with h0 | ⟨g, cap, cur, h1, h2, h3, h4⟩
  · exact .inl h0
  · exact .inr ⟨g, cap, cur, h1, h2, (Below.heap_setCell _ _ _ _ (by omega)).trans h3, h4⟩
theorem own_slice {w : World} {base n : Nat} {e : TypeId} {v : Value} {xs : List Value} (h : w.ownsRow base e 1 v n xs) : ∃ a cap, v = .slice a n cap := by
  rcases h.2 with ⟨rfl, rfl⟩ | ⟨g, cap, cur, rfl, _⟩
  · exact ⟨_, _, rfl⟩
  · exact ⟨_, _, rfl⟩
/-- An image's pixels gathered so far. -/
structure Pga (w : World) (W H : Nat) (z : Nat → Nat) (j : Nat) (v : Value) (wr : World) : Prop where
  box : Box wr w.heap.size 24 #[.int .i64 W, .int .i64 H, v]
  own : wr.ownsRow (w.heap.size + 1) 31 1 v j (pcells z j)
  bel : Below w.heap.size w wr
theorem Pga.start (w : World) (W H : Nat) (z : Nat → Nat) : Pga w W H z 0 (.slice none 0 0) (w.alloc (.cells #[.int .i64 W, .int .i64 H, .slice none 0 0] 24)) :=
  ⟨Box.made _ _ _, World.ownsRow_nil _ _ _ _, bel_a1 _ _⟩
theorem Pga.box1 {w wr w1 : World} {W H : Nat} {z : Nat → Nat} {j : Nat} {v : Value} {o : Obj} (h : Pga w W H z j v wr) (gr : (wr.alloc o).grownBy w1 v.ownBlock) : Box w1 w.heap.size 24 #[.int .i64 W, .int .i64 H, v] :=
  (gr.block w.heap.size (by have := h.box.lt; simp; omega) (fun e => by have := (h.own.lt _ e.symm).1; omega)).trans (h.box.alloc o)
theorem Pga.app {w wr w1 : World} {W H : Nat} {z : Nat → Nat} {j : Nat} {v v1 : Value} {o : Obj} {x : Int} (h : Pga w W H z j v wr) (own : w1.ownsRow (w.heap.size + 1) 31 1 v1 (j + 1) (pcells z j ++ [.int .u32 x])) (gr : (wr.alloc o).grownBy w1 v.ownBlock) (hx : x = z j) :
    Pga w W H z (j + 1) v1 (w1.setCell ⟨w.heap.size, 2, none⟩ v1) := by
  subst hx
  exact ⟨(h.box1 gr).set 2 v1, own_other (p := ⟨w.heap.size, 2, none⟩) (by rw [pcells_succ]; exact own) (by simp) _,
    ((h.bel.alloc h.bel.size o).grown gr (by have := h.bel.size; simp; omega) (fun k e => by have := (h.own.lt k e).1; omega)).setCell (p := ⟨w.heap.size, 2, none⟩) (Nat.le_refl _) _⟩
theorem pix_of {w : World} {a : Option Addr} {len cap : Nat} {zs : List Int} (h : (a = none ∧ len = 0 ∧ cap = 0 ∧ zs = []) ∨ ∃ x, a = some x ∧ len ≤ cap ∧ cap ≤ maxLen ∧ zs.length = cap ∧ (∀ i, i < zs.length → w.cell? (x.add i) = some (.int .u32 (zs.getD i 0))) ∧ ∀ n ∈ zs, (Lit.int .u32 n).wf = true) (h0 : 0 < len) :
    ∃ b off, ∃ z : Nat → Nat, a = some ⟨b, off, none⟩ ∧ Pixs w b off len z ∧ ∀ i, i < len → z i < 4294967296 := by
  rcases h with ⟨rfl, rfl, rfl, rfl⟩ | ⟨x, rfl, h1, h2, hz, hc, hwf⟩
  · omega
  · obtain ⟨b, off, spot⟩ := x
    have hspot : spot = none := by
      have h0 := hc 0 (by omega)
      simpa [Addr.add] using World.cell?_spot h0
    subst hspot
    have hb : ∀ i, i < len → 0 ≤ zs.getD i 0 ∧ zs.getD i 0 ≤ 4294967295 := fun i hi => bounds_u32 (hwf (zs.getD i 0) (by rw [List.getD_eq_getElem?_getD, List.getElem?_eq_getElem (by omega)]; exact List.getElem_mem _))
    refine ⟨b, off, fun i => (zs.getD i 0).toNat, rfl, fun i hi => ?_, fun i hi => ?_⟩
    · rw [← Go.WideShapes.add_plain, hc i (by omega)]
      show some (Value.int .u32 (zs.getD i 0)) = some (Value.int .u32 ((zs.getD i 0).toNat : Int))
      rw [Int.toNat_of_nonneg (hb i hi).1]
    · have := hb i hi
      show (zs.getD i 0).toNat < 4294967296
      omega
theorem img_of {w : World} {W H : Int} {a : Option Addr} {len cap : Nat} {zs : List Int} (h : (a = none ∧ len = 0 ∧ cap = 0 ∧ zs = []) ∨ ∃ x, a = some x ∧ len ≤ cap ∧ cap ≤ maxLen ∧ zs.length = cap ∧ (∀ i, i < zs.length → w.cell? (x.add i) = some (.int .u32 (zs.getD i 0))) ∧ ∀ n ∈ zs, (Lit.int .u32 n).wf = true) (hg : gdV W H len = true) :
    ∃ b off, ∃ z : Nat → Nat, ∃ W' H' : Nat, a = some ⟨b, off, none⟩ ∧ W = W' ∧ H = H' ∧ Img w W' H' b off len z ∧ 1 ≤ W' ∧ 1 ≤ H' ∧ ∀ i, i < len → z i < 4294967296 := by
  obtain ⟨W', H', rfl, rfl, h1, h2, h3, h4, e⟩ := gd_of hg
  have p : 0 < W' * H' := Nat.mul_pos (by omega) (by omega)
  obtain ⟨b, off, z, rfl, hp, hb⟩ := pix_of h (by omega)
  exact ⟨b, off, z, W', H', rfl, rfl, rfl, ⟨by omega, by omega, e, hp⟩, h1, h3, hb⟩
/-- Nothing, in a row of one's own. -/
theorem own_empty (w : World) : (w.alloc (.cells #[] 31)).ownsRow w.heap.size 31 1 (.slice (some ⟨w.heap.size, 0, none⟩) 0 0) 0 [] :=
  ⟨rfl, .inr ⟨w.heap.size, 0, #[], rfl, Nat.le_refl _, Box.made w 31 #[], Nat.le_refl _, by unfold maxLen; omega, rfl, rfl⟩⟩
theorem pc_one (z : Nat → Nat) (n : Nat) : ∀ u ∈ pcells z n, u.oneCell' = true := by
  intro u hu
  simp [pcells] at hu
  obtain ⟨i, _, rfl⟩ := hu
  rfl
theorem img_own {w : World} {W H g n : Nat} {f : Nat → Nat} (hW : W ≤ 16384) (hH : H ≤ 16384) (hn : n = W * H) (P : Pow w g n f) : Img w W H g 0 n f := ⟨hW, hH, hn, P.pixs⟩
/-- An image of one's own. -/
structure Gives (w : World) (n g : Nat) (f : Nat → Nat) (w' : World) : Prop where
  row : Pow w' g n f
  new : w.heap.size ≤ g
  bel : Below w.heap.size w w'
end Go.Proofs.Ytflmlbdcjjldgaa.Ims
