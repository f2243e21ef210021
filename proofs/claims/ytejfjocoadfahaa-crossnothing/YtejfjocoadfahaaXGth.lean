/- Plain facts: two rows of elements that grow beside each other. No conditions. -/
import Derived.Test.YtejfjocoadfahaaXInp
namespace Go.Proofs.Ytejfjocoadfahaa.XGth
set_option linter.unusedVariables false
open Go.ChangeShapes Go.WideShapes Go.ChangeAt Go.RowKit Go.Sort Go.Proofs.Ytejfjocoadfahaa.Core Go.Proofs.Ytejfjocoadfahaa.XNum Go.Proofs.Ytejfjocoadfahaa.Ims Go.Proofs.Ytejfjocoadfahaa.XFit

theorem info37 : (Try.prog.info? 37).map (fun i => (i.zero, i.size, i.bytes)) = some (some (.agg #[.int .i8 0, .int .i8 0, .int .i8 0]), 3, 3) := by kernel_rfl
/-- n times the same element, cell by cell. -/
def ecs (e : El) : Nat → List Value
  | 0 => []
  | n + 1 => ecs e n ++ [.int .i8 e.a, .int .i8 e.b, .int .i8 e.c]
theorem ecs_len (e : El) (n : Nat) : (ecs e n).length = n * 3 := by
  induction n with
  | zero => rfl
  | succ n ih => simp [ecs, ih]; omega
theorem ecs_at (e : El) {n i : Nat} (h : i < n) : (ecs e n)[i * 3]? = some (.int .i8 e.a) ∧ (ecs e n)[i * 3 + 1]? = some (.int .i8 e.b) ∧ (ecs e n)[i * 3 + 2]? = some (.int .i8 e.c) := by
  induction n with
  | zero => omega
  | succ n ih =>
    have hl := ecs_len e n
    by_cases hi : i < n
    · obtain ⟨h0, h1, h2⟩ := ih hi
      unfold ecs
      rw [List.getElem?_append_left (by omega), List.getElem?_append_left (by omega), List.getElem?_append_left (by omega)]
      exact ⟨h0, h1, h2⟩
    · obtain rfl : i = n := by omega
      unfold ecs
      rw [List.getElem?_append_right (by omega), List.getElem?_append_right (by omega), List.getElem?_append_right (by omega), hl]
      simp
theorem own_els {w : World} {base n : Nat} {v : Value} {e : El} (h : w.ownsRow base 37 3 v n (ecs e n)) (he : e.ok) (hn : 0 < n) :
    ∃ g cap, v = .slice (some ⟨g, 0, none⟩) n cap ∧ Els w g 0 n (fun _ => e) := by
  have H := h
  rcases h.2 with ⟨_, h0⟩ | ⟨g, cap, cur, rfl, _⟩
  · omega
  · refine ⟨g, cap, rfl, fun i hi => ?_⟩
    have hc : ∀ j u, (ecs e n)[j]? = some u → w.cell? ⟨g, j, none⟩ = some u := fun j u hu => by
      have k := H.cells (g := g) rfl j u hu
      rwa [Go.WideShapes.add_plain, Nat.zero_add] at k
    obtain ⟨h0, h1, h2⟩ := ecs_at e hi
    rw [Nat.zero_add]
    exact ⟨hc _ _ h0, hc _ _ h1, hc _ _ h2, he⟩
theorem own_keep {w w' : World} {base n k : Nat} {t : TypeId} {v : Value} {xs : List Value} (h : w.ownsRow base t k v n xs) (b : Below w.heap.size w w') : w'.ownsRow base t k v n xs :=
  h.kept (row := none) ⟨b.os, b.tape, b.output, b.size, fun k hk _ => b.block k hk⟩ (by cases v.ownBlock <;> simp)
/-- Two rows of elements, in blocks that they do not share. -/
structure Ab (w : World) (e f : El) (va vb : Value) (k : Nat) (wr : World) : Prop where
  oa : wr.ownsRow w.heap.size 37 3 va k (ecs e k)
  ob : wr.ownsRow w.heap.size 37 3 vb k (ecs f k)
  ne : vb.ownBlock = none ∨ vb.ownBlock ≠ va.ownBlock
  bel : Below w.heap.size w wr
theorem Ab.start (w : World) (e f : El) : Ab w e f (.slice none 0 0) (.slice none 0 0) 0 w := ⟨World.ownsRow_nil _ _ _ _, World.ownsRow_nil _ _ _ _, .inl rfl, Below.refl _ _⟩
theorem Ab.keep {w wr w' : World} {e f : El} {va vb : Value} {k : Nat} (h : Ab w e f va vb k wr) (b : Below wr.heap.size wr w') : Ab w e f va vb k w' := ⟨own_keep h.oa b, own_keep h.ob b, h.ne, bel_into h.bel b⟩
theorem ne_flip {a b : Option Nat} (h : b = none ∨ b ≠ a) : a = none ∨ a ≠ b := by
  rcases h with rfl | h
  · cases a <;> simp
  · exact .inr fun e => h e.symm
theorem Ab.mid {w wr wa : World} {e f : El} {va va' vb : Value} {k : Nat} {o : Obj} (h : Ab w e f va vb k wr) (own1 : wa.ownsRow w.heap.size 37 3 va' (k + 1) (ecs e k ++ [.int .i8 e.a, .int .i8 e.b, .int .i8 e.c]))
    (gr1 : (wr.alloc o).grownBy wa va.ownBlock) (at1 : va'.ownBlock = va.ownBlock ∨ va'.ownBlock = some (wr.alloc o).heap.size) :
    wa.ownsRow w.heap.size 37 3 va' (k + 1) (ecs e (k + 1)) ∧ wa.ownsRow w.heap.size 37 3 vb k (ecs f k) ∧ (vb.ownBlock = none ∨ vb.ownBlock ≠ va'.ownBlock) ∧ Below w.heap.size w wa := by
  refine ⟨own1, (h.ob.alloc o).kept gr1 h.ne, ?_, (h.bel.alloc h.bel.size o).grown gr1 (by have := h.bel.size; simp; omega) (fun k e => (h.oa.lt k e).1)⟩
  rcases at1 with e | e
  · rw [e]; exact h.ne
  · rw [e]
    refine .inr fun e2 => ?_
    have := (h.ob.lt _ e2).2
    simp at this
    omega
theorem Ab.next {w wa wb : World} {e f : El} {va vb vb' : Value} {k : Nat} {o : Obj} (oa : wa.ownsRow w.heap.size 37 3 va (k + 1) (ecs e (k + 1))) (ob : wa.ownsRow w.heap.size 37 3 vb k (ecs f k))
    (ne : vb.ownBlock = none ∨ vb.ownBlock ≠ va.ownBlock) (bel : Below w.heap.size w wa) (own2 : wb.ownsRow w.heap.size 37 3 vb' (k + 1) (ecs f k ++ [.int .i8 f.a, .int .i8 f.b, .int .i8 f.c]))
    (gr2 : (wa.alloc o).grownBy wb vb.ownBlock) (at2 : vb'.ownBlock = vb.ownBlock ∨ vb'.ownBlock = some (wa.alloc o).heap.size) : Ab w e f va vb' (k + 1) wb := by
  refine ⟨(oa.alloc o).kept gr2 (ne_flip ne), own2, ?_, (bel.alloc bel.size o).grown gr2 (by have := bel.size; simp; omega) (fun k e => (ob.lt k e).1)⟩
  rcases at2 with e | e
  · rw [e]; exact ne
  · rw [e]
    refine .inr fun e2 => ?_
    have := (oa.lt _ e2.symm).2
    simp at this
    omega
theorem three_one (x y z : Int) : ∀ u ∈ [Value.int .i8 x, .int .i8 y, .int .i8 z], u.oneCell' = true := by
  intro u hu
  simp at hu
  rcases hu with rfl | rfl | rfl <;> rfl
theorem three_new (w : World) (x y z : Value) (t : TypeId) : ∀ j u, ([x, y, z] : List Value)[j]? = some u → (w.alloc (.cells #[x, y, z] t)).cell? ((⟨w.heap.size, 0, none⟩ : Addr).add j) = some u := by
  intro j u hj
  match j, hj with
  | 0, hj => simp at hj; subst hj; simp [Addr.add]
  | 1, hj => simp at hj; subst hj; simp [Addr.add]
  | 2, hj => simp at hj; subst hj; simp [Addr.add]
end Go.Proofs.Ytejfjocoadfahaa.XGth
