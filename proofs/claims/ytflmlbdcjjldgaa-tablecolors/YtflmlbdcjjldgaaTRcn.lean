/- Plain facts: a number put among rising ones at its place; rows of one's own that hold numbers. No function of the program. No conditions. -/
import Derived.Test.YtflmlbdcjjldgaaTLst
import Derived.Test.YtflmlbdcjjldgaaTCol
namespace Go.Proofs.Ytflmlbdcjjldgaa.TRcn
set_option linter.unusedVariables false
open Go.ChangeShapes Go.WideShapes Go.ChangeAt Go.RowKit Go.Sort Go.Proofs.Ytflmlbdcjjldgaa.Core Go.Proofs.Ytflmlbdcjjldgaa.PNum Go.Proofs.Ytflmlbdcjjldgaa.PGoo Go.Proofs.Ytflmlbdcjjldgaa.Ims Go.Proofs.Ytflmlbdcjjldgaa.TSet Go.Proofs.Ytflmlbdcjjldgaa.TCol Go.Proofs.Ytflmlbdcjjldgaa.TLst

theorem ins_at (x : Nat) : ∀ (l : List Nat) (k : Nat), k ≤ l.length → (∀ j, j < k → l.getD j 0 < x) → (k < l.length → x ≤ l.getD k 0) → ins x l = if k < l.length ∧ l.getD k 0 = x then l else l.take k ++ x :: l.drop k
  | [], k, h, _, _ => by simp [ins]
  | a :: l, 0, _, _, h2 => by
    have h2' : x ≤ a := h2 (by simp)
    unfold ins
    rw [if_neg (by omega)]
    simp
  | a :: l, k + 1, h, h1, h2 => by
    have h1' : a < x := h1 0 (by omega)
    unfold ins
    rw [if_pos h1', ins_at x l k (by simpa using h) (fun j hj => by simpa using h1 (j + 1) (by omega)) (fun hk => by simpa using h2 (by simpa using hk))]
    simp
    split <;> rfl
theorem ins_hit {x k : Nat} {l : List Nat} (hk : k < l.length) (h1 : ∀ j, j < k → l.getD j 0 < x) (e : l.getD k 0 = x) : ins x l = l := by
  rw [ins_at x l k (by omega) h1 (fun _ => by omega), if_pos ⟨hk, e⟩]
theorem ins_miss {x k : Nat} {l : List Nat} (hk : k ≤ l.length) (h1 : ∀ j, j < k → l.getD j 0 < x) (h2 : k < l.length → x < l.getD k 0) : ins x l = l.take k ++ x :: l.drop k := by
  rw [ins_at x l k hk h1 (fun h => Nat.le_of_lt (h2 h)), if_neg (fun h => by have := h2 h.1; omega)]
theorem vs_len (l : List Nat) : (vs l).length = l.length := by simp [vs]
theorem vs_one (l : List Nat) : ∀ u ∈ vs l, u.oneCell' = true := by
  intro u hu
  simp [vs] at hu
  obtain ⟨i, _, rfl⟩ := hu
  rfl
theorem vs_join (l m : List Nat) (x : Nat) : (vs l ++ [.int .u32 (x : Int)]) ++ vs m = vs (l ++ x :: m) := by simp [vs]
theorem vs_of {l : List Nat} {j : Nat} {u : Value} (h : (vs l)[j]? = some u) : j < l.length ∧ u = .int .u32 (l.getD j 0 : Nat) := by
  have hj : j < l.length := by
    have := (List.getElem?_eq_some_iff.1 h).1
    rwa [vs_len] at this
  rw [vs_at hj] at h
  exact ⟨hj, (Option.some.inj h).symm⟩
theorem news_take {w : World} {b off : Nat} {l : List Nat} {k : Nat} (hk : k ≤ l.length) (h : Pixs w b off l.length (fun j => l.getD j 0)) : ∀ j u, (vs (l.take k))[j]? = some u → w.cell? ((⟨b, off, none⟩ : Addr).add j) = some u := by
  intro j u hu
  obtain ⟨hj, rfl⟩ := vs_of hu
  rw [List.length_take] at hj
  rw [Go.WideShapes.add_plain, h j (by omega)]
  have : (l.take k).getD j 0 = l.getD j 0 := by
    rw [List.getD_eq_getElem?_getD, List.getD_eq_getElem?_getD, List.getElem?_take_of_lt (by omega)]
  rw [this]
theorem news_drop {w : World} {b off : Nat} {l : List Nat} {k : Nat} (hk : k ≤ l.length) (h : Pixs w b off l.length (fun j => l.getD j 0)) : ∀ j u, (vs (l.drop k))[j]? = some u → w.cell? ((⟨b, off + k, none⟩ : Addr).add j) = some u := by
  intro j u hu
  obtain ⟨hj, rfl⟩ := vs_of hu
  rw [List.length_drop] at hj
  rw [Go.WideShapes.add_plain, Nat.add_assoc, h (k + j) (by omega)]
  have : (l.drop k).getD j 0 = l.getD (k + j) 0 := by
    rw [List.getD_eq_getElem?_getD, List.getD_eq_getElem?_getD, List.getElem?_drop]
  rw [this]
theorem lst_of_own {w : World} {base m : Nat} {v : Value} {l : List Nat} (h : w.ownsRow base 31 1 v m (vs l)) (hm : m = l.length) : Lst w v m (fun j => l.getD j 0) := by
  subst hm
  rcases h.2 with ⟨h1, h0⟩ | ⟨g, cap, cur, rfl, _, _, h3, _⟩
  · refine .inl ⟨h1, by simpa using h0⟩
  · refine .inr ⟨_, cap, rfl, fun i hi => ?_⟩
    rw [Go.WideShapes.add_plain, Nat.zero_add, h.cellAt i (by omega), vs_at hi]
theorem own_empty1 (w : World) (o : Obj) : ((w.alloc o).alloc (.cells #[] 31)).ownsRow (w.heap.size + 1) 31 1 (.slice (some ⟨w.heap.size + 1, 0, none⟩) 0 0) 0 [] := by
  have h := own_empty (w.alloc o)
  rwa [show (w.alloc o).heap.size = w.heap.size + 1 by simp] at h
end Go.Proofs.Ytflmlbdcjjldgaa.TRcn
