/- Plain facts: numbers gathered one by one; an image of one colour. No conditions. -/
import Derived.Test.YtnfokdcoelignaaLNum
import Derived.Test.YtnfokdcoelignaaLSnd
import Derived.Maps.AppendAt
namespace Go.Proofs.Ytnfokdcoelignaa.LGth
set_option linter.unusedVariables false
open Go.ChangeShapes Go.WideShapes Go.ChangeAt Go.RowKit Go.Sort Go.Proofs.Ytnfokdcoelignaa.Core Go.Proofs.Ytnfokdcoelignaa.PNum Go.Proofs.Ytnfokdcoelignaa.PFun Go.Proofs.Ytnfokdcoelignaa.PGoo Go.Proofs.Ytnfokdcoelignaa.GGue Go.Proofs.Ytnfokdcoelignaa.GImg Go.Proofs.Ytnfokdcoelignaa.GAro Go.Proofs.Ytnfokdcoelignaa.GAtt Go.Proofs.Ytnfokdcoelignaa.GCpy Go.Proofs.Ytnfokdcoelignaa.LBlk Go.Proofs.Ytnfokdcoelignaa.LMod Go.Proofs.Ytnfokdcoelignaa.LSnd Go.Proofs.Ytnfokdcoelignaa.LNum

def cells (c : Nat → Int) (n : Nat) : List Value := (List.range n).map fun k => .int .i64 (c k)
theorem cells_len (c : Nat → Int) (n : Nat) : (cells c n).length = n := by simp [cells]
theorem cells_at (c : Nat → Int) (n k : Nat) (h : k < n) : (cells c n)[k]? = some (.int .i64 (c k)) := by
  simp [cells, h]
theorem cells_succ (c : Nat → Int) (n : Nat) : cells c (n + 1) = cells c n ++ [.int .i64 (c n)] := by
  simp [cells, List.range_succ]
theorem one_one (k : IntKind) (x : Int) : ∀ u ∈ [Value.int k x], u.oneCell' = true := by
  intro u hu; simp at hu; subst hu; rfl
theorem info3 : (Try.prog.info? 3).map (fun i => (i.zero, i.size, i.bytes)) = some (some (.int .i64 0), 1, 8) := by kernel_rfl
/-- What is gathered so far. -/
structure Gth (w wr : World) (v : Value) (c : Nat → Int) (k : Nat) : Prop where
  own : wr.ownsRow w.heap.size 3 1 v k (cells c k)
  bel : Below w.heap.size w wr
theorem Gth.start (w : World) (c : Nat → Int) : Gth w w (.slice none 0 0) c 0 := ⟨World.ownsRow_nil _ _ _ _, Below.refl _ _⟩
theorem Gth.app {w wr w1 : World} {v v1 : Value} {c : Nat → Int} {k : Nat} {o : Obj} {x : Int} (h : Gth w wr v c k) (own : w1.ownsRow w.heap.size 3 1 v1 (k + 1) (cells c k ++ [.int .i64 x])) (gr : (wr.alloc o).grownBy w1 v.ownBlock) (hx : x = c k) : Gth w w1 v1 c (k + 1) := by
  subst hx
  exact ⟨by rw [cells_succ]; exact own, (h.bel.alloc h.bel.size o).grown gr (by have := h.bel.size; simp; omega) (fun k e => (h.own.lt k e).1)⟩
theorem Gth.mds {w wr : World} {v : Value} {c : Nat → Int} {k : Nat} (h : Gth w wr v c k) (hk : 0 < k) : ∃ g cap, v = .slice (some ⟨g, 0, none⟩) k cap ∧ Mds wr (some ⟨g, 0, none⟩) k c := by
  have O := h.own
  rcases h.own.2 with ⟨rfl, h0⟩ | ⟨g, cap, cur, rfl, _⟩
  · omega
  · exact ⟨g, cap, rfl, fun i hi => ⟨g, 0, rfl, by rw [Nat.zero_add]; exact (O.cellAt i (by omega)).trans (cells_at c k i hi)⟩⟩
theorem pcells_succ (z : Nat → Nat) (n : Nat) : pcells z (n + 1) = pcells z n ++ [.int .u32 (z n)] := by
  simp [pcells, List.range_succ]
theorem own_other {w : World} {base n : Nat} {e : TypeId} {v : Value} {xs : List Value} (h : w.ownsRow base e 1 v n xs) {p : Addr} (hp : p.block < base) (u : Value) : (w.setCell p u).ownsRow base e 1 v n xs := by
  refine ⟨h.1, ?_⟩
  rcases h.2 with h0 | ⟨g, cap, cur, h1, h2, h3, h4⟩
  · exact .inl h0
  · exact .inr ⟨g, cap, cur, h1, h2, (Below.heap_setCell _ _ _ _ (by omega)).trans h3, h4⟩
theorem own_slice {w : World} {base n : Nat} {e : TypeId} {v : Value} {xs : List Value} (h : w.ownsRow base e 1 v n xs) : ∃ a cap, v = .slice a n cap := by
  rcases h.2 with ⟨rfl, rfl⟩ | ⟨g, cap, cur, rfl, _⟩
  · exact ⟨_, _, rfl⟩
  · exact ⟨_, _, rfl⟩
/-- An image's pixels gathered so far. -/
structure Pga (w : World) (W H : Nat) (z : Nat → Nat) (j : Nat) (v : Value) (wr : World) : Prop where
  box : Box wr w.heap.size 24 #[.int .i64 W, .int .i64 H, v]
  own : wr.ownsRow (w.heap.size + 1) 38 1 v j (pcells z j)
  bel : Below w.heap.size w wr
theorem Pga.start (w : World) (W H : Nat) (z : Nat → Nat) : Pga w W H z 0 (.slice none 0 0) (w.alloc (.cells #[.int .i64 W, .int .i64 H, .slice none 0 0] 24)) :=
  ⟨Box.made _ _ _, World.ownsRow_nil _ _ _ _, bel_a1 _ _⟩
theorem Pga.box1 {w wr w1 : World} {W H : Nat} {z : Nat → Nat} {j : Nat} {v : Value} {o : Obj} (h : Pga w W H z j v wr) (gr : (wr.alloc o).grownBy w1 v.ownBlock) : Box w1 w.heap.size 24 #[.int .i64 W, .int .i64 H, v] :=
  (gr.block w.heap.size (by have := h.box.lt; simp; omega) (fun e => by have := (h.own.lt _ e.symm).1; omega)).trans (h.box.alloc o)
theorem Pga.app {w wr w1 : World} {W H : Nat} {z : Nat → Nat} {j : Nat} {v v1 : Value} {o : Obj} {x : Int} (h : Pga w W H z j v wr) (own : w1.ownsRow (w.heap.size + 1) 38 1 v1 (j + 1) (pcells z j ++ [.int .u32 x])) (gr : (wr.alloc o).grownBy w1 v.ownBlock) (hx : x = z j) :
    Pga w W H z (j + 1) v1 (w1.setCell ⟨w.heap.size, 2, none⟩ v1) := by
  subst hx
  exact ⟨(h.box1 gr).set 2 v1, own_other (p := ⟨w.heap.size, 2, none⟩) (by rw [pcells_succ]; exact own) (by simp) _,
    ((h.bel.alloc h.bel.size o).grown gr (by have := h.bel.size; simp; omega) (fun k e => by have := (h.own.lt k e).1; omega)).setCell (p := ⟨w.heap.size, 2, none⟩) (Nat.le_refl _) _⟩
theorem cut_nat {n : Nat} (h : n < 256) : cutV (n : Int) = n := by have := cutV_in (z := n) (by omega) (by omega); omega
theorem full_self {p : Nat} (hp : p < 4294967296) : fullV p p p = p := mk_is hp fun k _ => by
  unfold fullF; rw [Int.add_sub_cancel]; exact cut_nat (pt_lt p k)
theorem half_self {p : Nat} (hp : p < 4294967296) : halfV p p = p := mk_is hp fun k _ => by
  unfold halfF; rw [Int.sub_self, Int.zero_tdiv, Int.add_zero]; exact cut_nat (pt_lt p k)
theorem pick_self (p u : Nat) : pickV p p u = p := by unfold pickV; split <;> rfl
theorem gs_self {m : Int} {p : Nat} (hp : p < 4294967296) (h0 : 1 ≤ m) (h1 : m ≤ 13) : gsV m p p p p = p := by
  rcases gs_in h0 h1 with rfl | rfl | rfl | rfl | rfl | rfl | rfl | rfl | rfl | rfl | rfl | rfl | rfl
  · exact gs_1 _ _ _ _
  · exact gs_2 _ _ _ _
  · exact gs_3 _ _ _ _
  · exact gs_4 _ _ _ _
  · rw [gs_5, avg_self hp, avg_self hp]
  · rw [gs_6, avg_self hp]
  · rw [gs_7, avg_self hp]
  · rw [gs_8, avg_self hp]
  · rw [gs_9, avg_self hp]
  · rw [gs_10, avg_self hp, avg_self hp]
  · rw [gs_11, pick_self]
  · rw [gs_12, full_self hp]
  · rw [gs_13, avg_self hp, half_self hp]

theorem sub_self (p : Nat) : subV p p = 0 := by
  have : subV p p = mk (fun _ => 0) := mk_congr fun k _ => by unfold subF; have := pt_lt p k; omega
  rw [this]; rfl
/-- Of one colour nothing is left but the first pixel. -/
theorem fo_flat {W k : Nat} {p : Nat} (hp : p < 4294967296) {m : Int} (h0 : 1 ≤ m) (h1 : m ≤ 13) (hW : 0 < W) {i : Nat} (hi : 0 < i) : foV W k (fun _ => m) (fun _ => p) i = 0 := by
  have hpl := place_is W i
  have e : gu W k (fun _ => m) (fun _ => p) i = p := by
    show atV W (fun _ => p) m (i % W) (i / W) = p
    generalize i % W = X at *
    generalize i / W = Y at *
    by_cases hx : X = 0
    · by_cases hy : Y = 0
      · subst hx hy
        rw [Nat.zero_mul] at hpl
        omega
      · rw [at_0y _ _ _ hx hy, tV, if_neg hy]
    · by_cases hy : Y = 0
      · rw [at_x0 _ _ _ hx hy, lV, if_neg hx]
      · have r : rV W (fun _ => p) X Y = p := by
          unfold rV
          split
          · rfl
          · first | rfl | (rw [if_neg hy])
        rw [at_xy _ _ _ hx hy, lV, if_neg hx, tV, if_neg hy, uV, if_neg (by omega), r]
        exact gs_self hp h0 h1
  rw [foV, e, sub_self]
theorem fo_first (W k p : Nat) (md : Nat → Int) : foV W k md (fun _ => p) 0 = subV p 4278190080 := by
  rw [foV, gu, at_00 _ _ _ (Nat.zero_mod W) (Nat.zero_div W)]
end Go.Proofs.Ytnfokdcoelignaa.LGth
