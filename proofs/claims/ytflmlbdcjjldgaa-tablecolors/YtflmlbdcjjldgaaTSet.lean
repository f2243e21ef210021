/- Plain facts: the different ones of a row of numbers, rising; a set of numbers as a map; what was collected of it. No function of the program. No conditions. -/
import Derived.Test.YtflmlbdcjjldgaaTMap
import Derived.Maps.RangeWalk
import Derived.Test.YtflmlbdcjjldgaaQNum
namespace Go.Proofs.Ytflmlbdcjjldgaa.TSet
set_option linter.unusedVariables false
open Go.ChangeShapes Go.WideShapes Go.ChangeAt Go.RowKit Go.Maps Go.Sort Go.Proofs.Ytflmlbdcjjldgaa.Core Go.Proofs.Ytflmlbdcjjldgaa.QNum Go.Proofs.Ytflmlbdcjjldgaa.TMap

/-- x among rising numbers, once. -/
def ins (x : Nat) : List Nat → List Nat
  | [] => [x]
  | y :: l => if y < x then y :: ins x l else if y = x then y :: l else x :: y :: l
theorem ins_mem (x y : Nat) : ∀ l, y ∈ ins x l ↔ y = x ∨ y ∈ l
  | [] => by simp [ins]
  | a :: l => by
    unfold ins
    split
    · simp [ins_mem x y l]
      constructor <;> intro h <;> rcases h with h | h | h <;> simp [h]
    · split
      · rename_i h1 h2
        subst h2
        simp
      · simp
theorem ins_up (x : Nat) : ∀ l : List Nat, l.Pairwise (· < ·) → (ins x l).Pairwise (· < ·)
  | [], _ => by simp [ins]
  | a :: l, h => by
    have h1 := List.pairwise_cons.1 h
    unfold ins
    split
    · rename_i hax
      refine List.pairwise_cons.2 ⟨fun y hy => ?_, ins_up x l h1.2⟩
      rcases (ins_mem x y l).1 hy with rfl | hy
      · exact hax
      · exact h1.1 y hy
    · split
      · exact h
      · rename_i h2 h3
        refine List.pairwise_cons.2 ⟨fun y hy => ?_, h⟩
        rcases List.mem_cons.1 hy with rfl | hy
        · omega
        · have := h1.1 y hy; omega
theorem ins_len (x : Nat) : ∀ l : List Nat, l.Pairwise (· < ·) → (ins x l).length = if x ∈ l then l.length else l.length + 1
  | [], _ => by simp [ins]
  | a :: l, h => by
    have h1 := List.pairwise_cons.1 h
    have ih := ins_len x l h1.2
    unfold ins
    split
    · rename_i hax
      rw [List.length_cons, ih]
      have : x ∈ a :: l ↔ x ∈ l := by simp; omega
      simp only [this]
      split <;> simp
    · split
      · rename_i h2 h3
        subst h3; simp
      · rename_i h2 h3
        have : x ∉ a :: l := fun hm => by
          rcases List.mem_cons.1 hm with e | hm
          · exact h3 e.symm
          · have := h1.1 x hm; omega
        simp only [if_neg this, List.length_cons]
/-- The different ones of the first k of z, rising. -/
def ds (z : Nat → Nat) : Nat → List Nat
  | 0 => []
  | k + 1 => ins (z k) (ds z k)
theorem ds_up (z : Nat → Nat) : ∀ k, (ds z k).Pairwise (· < ·)
  | 0 => List.Pairwise.nil
  | k + 1 => ins_up _ _ (ds_up z k)
theorem ds_mem (z : Nat → Nat) (x : Nat) : ∀ k, x ∈ ds z k ↔ ∃ i, i < k ∧ z i = x
  | 0 => by simp [ds]
  | k + 1 => by
    rw [ds, ins_mem, ds_mem z x k]
    constructor
    · rintro (rfl | ⟨i, h, e⟩)
      · exact ⟨k, by omega, rfl⟩
      · exact ⟨i, by omega, e⟩
    · rintro ⟨i, h, e⟩
      by_cases hk : i = k
      · subst hk; exact .inl e.symm
      · exact .inr ⟨i, by omega, e⟩
theorem ds_len (z : Nat → Nat) (k : Nat) : (ds z (k + 1)).length = if z k ∈ ds z k then (ds z k).length else (ds z k).length + 1 := ins_len _ _ (ds_up z k)
theorem ds_mono (z : Nat → Nat) {k m : Nat} (h : k ≤ m) : (ds z k).length ≤ (ds z m).length := by
  induction m with
  | zero => have : k = 0 := by omega
            subst this; exact Nat.le_refl _
  | succ m ih =>
    by_cases e : k = m + 1
    · subst e; exact Nat.le_refl _
    · have := ih (by omega)
      rw [ds_len]
      split <;> omega
theorem ds_le (z : Nat → Nat) : ∀ k, (ds z k).length ≤ k
  | 0 => by simp [ds]
  | k + 1 => by have := ds_le z k; rw [ds_len]; split <;> omega
theorem key_lit (x : Nat) : WideAt.IsKeyLit (.int .u32 (x : Int)) := by trivial
/-- A set of numbers: its keys are those of L. -/
structure St (L : List Nat) (D : DataW Unit) : Prop where
  has : ∀ x : Nat, Maps.has D (.int .u32 (x : Int)) = decide (x ∈ L)
  size : Maps.size D = L.length
  tidy : Tidy D
theorem St.start : St [] (.map []) := ⟨fun x => by simp [Maps.has], rfl, tidy_empty⟩
theorem St.step {z : Nat → Nat} {k : Nat} {D : DataW Unit} (h : St (ds z k) D) : St (ds z (k + 1)) (D.put (.int .u32 (z k : Int)) (.agg [])) := by
  refine ⟨fun x => ?_, ?_, h.tidy.put (key_lit _) _⟩
  · by_cases e : x = z k
    · subst e
      rw [has_put_same h.tidy.isMap (key_lit _)]
      exact (decide_eq_true ((ins_mem _ _ _).2 (.inl rfl))).symm
    · rw [has_put_other (lit_ne e), h.has x]
      exact decide_eq_decide.2 ⟨fun q => (ins_mem _ _ _).2 (.inr q), fun q => ((ins_mem _ _ _).1 q).resolve_left e⟩
  · rw [size_put h.tidy, h.has, h.size, ds_len]
    by_cases e : z k ∈ ds z k <;> simp [e]
/-- What was met so far of a set. -/
structure Met2 (L : List Nat) (left : Lit → Bool) (ss : List Nat) : Prop where
  nd : ss.Nodup
  mem : ∀ x : Nat, x ∈ ss ↔ (x ∈ L ∧ left (.int .u32 (x : Int)) = false)
theorem Met2.start {L : List Nat} {D : DataW Unit} (h : St L D) : Met2 L (Maps.has D) [] := ⟨List.nodup_nil, fun x => by simp [h.has x]⟩
theorem Met2.step {L : List Nat} {left : Lit → Bool} {ss : List Nat} (h : Met2 L left ss) {x : Nat} (hx : x ∈ L) (hl : left (.int .u32 (x : Int)) = true) : Met2 L (fun z => left z && !z.sameKey (.int .u32 (x : Int))) (ss ++ [x]) := by
  have hn : x ∉ ss := fun q => by have := ((h.mem x).1 q).2; rw [hl] at this; cases this
  refine ⟨List.nodup_append.2 ⟨h.nd, by simp, fun a ha b hb => by simp at hb; subst hb; exact fun e => hn (e ▸ ha)⟩, fun y => ?_⟩
  by_cases e : y = x
  · subst e
    simp [hx, Lit.sameKey]
  · have : (Lit.int .u32 (y : Int)).sameKey (.int .u32 (x : Int)) = false := by
      simp [Lit.sameKey]; omega
    simp [h.mem y, e, this]
theorem Met2.perm {L : List Nat} {left : Lit → Bool} {ss : List Nat} (h : Met2 L left ss) (hL : L.Pairwise (· < ·)) (hl : ∀ kl, left kl = false) : ss.Perm L :=
  (List.perm_ext_iff_of_nodup h.nd (List.pairwise_iff_getElem.2 fun i j hi hj hij => by have := List.pairwise_iff_getElem.1 hL i j hi hj hij; omega)).2 fun x => by rw [h.mem x, hl]; simp
/-- Rising numbers are one list. -/
theorem up_eq {L : List Nat} {d : Array Nat} (hL : L.Pairwise (· < ·)) (hp : d.toList.Perm L) (hs : SortedIn cl 0 d.size d) : d.toList = L := by
  refine List.Perm.eq_of_pairwise (le := fun a b => a ≤ b) (fun a b _ _ h1 h2 => Nat.le_antisymm h1 h2) ?_ (List.pairwise_iff_getElem.2 fun i j hi hj hij => Nat.le_of_lt (List.pairwise_iff_getElem.1 hL i j hi hj hij)) hp
  refine List.pairwise_iff_getElem.2 fun i j hi hj hij => ?_
  have := hs i j (Nat.zero_le _) hij (by simpa using hj)
  simp at hi hj
  rw [getElem!_pos d i hi, getElem!_pos d j hj] at this
  simp [cl] at this
  simpa using this
end Go.Proofs.Ytflmlbdcjjldgaa.TSet
