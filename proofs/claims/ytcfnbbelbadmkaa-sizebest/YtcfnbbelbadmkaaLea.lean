/- Plain facts: rows of integers, joined two by two and sorted, are the rows of weights. Conditions: as each says. -/
import Derived.Test.YtcfnbbelbadmkaaSrd
import Derived.Test.YtcfnbbelbadmkaaWid
namespace Go.Proofs.Ytcfnbbelbadmkaa.Lea
open Go.ChangeShapes Go.WideShapes Go.ChangeAt Go.RowKit Go.Proofs.Ytcfnbbelbadmkaa.Core Go.Proofs.Ytcfnbbelbadmkaa.Gnd Go.Proofs.Ytcfnbbelbadmkaa.Ris Go.Proofs.Ytcfnbbelbadmkaa.Itm Go.Proofs.Ytcfnbbelbadmkaa.Mrg Go.Proofs.Ytcfnbbelbadmkaa.Pur Go.Proofs.Ytcfnbbelbadmkaa.Spr Go.Proofs.Ytcfnbbelbadmkaa.Bst Go.Proofs.Ytcfnbbelbadmkaa.Fin Go.Proofs.Ytcfnbbelbadmkaa.Use Go.Proofs.Ytcfnbbelbadmkaa.Mon Go.Proofs.Ytcfnbbelbadmkaa.Wid Go.Proofs.Ytcfnbbelbadmkaa.Srd

def prsZ : List Int → List Int
  | a :: b :: t => (a + b) :: prsZ t
  | _ => []
theorem prsZ_len : ∀ xs : List Int, (prsZ xs).length = xs.length / 2
  | [] => rfl
  | [_] => by simp [prsZ]
  | _ :: _ :: t => by
    have := prsZ_len t
    simp only [prsZ, List.length_cons]
    omega
theorem prs_map : ∀ ys : List It, (prs ys).map (·.1) = prsZ (ys.map (·.1))
  | [] => rfl
  | [_] => by simp [prs, prsZ]
  | a :: b :: t => by
    have := prs_map t
    simp only [prs, prsZ, List.map_cons, this]
theorem prsZ_at : ∀ (xs : List Int) (j : Nat), j < xs.length / 2 → (prsZ xs).getD j 0 = xs.getD (2 * j) 0 + xs.getD (2 * j + 1) 0
  | [], j, h => by simp at h
  | [_], j, h => by simp at h
  | a :: b :: t, 0, _ => by simp [prsZ]
  | a :: b :: t, j + 1, h => by
    have := prsZ_at t j (by simp only [List.length_cons] at h; omega)
    simp only [prsZ, show 2 * (j + 1) = 2 * j + 1 + 1 by omega, List.getD_cons_succ]
    exact this
theorem srt_eq {A B : List Int} (ha : A.Pairwise (fun a b => leZ a b = true)) (hb : B.Pairwise (fun a b => leZ a b = true)) (p : A.Perm B) : A = B :=
  p.eq_of_pairwise (le := fun a b => leZ a b = true) (fun _ _ _ _ h1 h2 => Int.le_antisymm (of_decide_eq_true h1) (of_decide_eq_true h2)) ha hb
theorem ris_map {S : List It} (h : Ris S) : (S.map (·.1)).Pairwise (fun a b => leZ a b = true) := by
  refine List.pairwise_map.2 ?_
  exact (ris_iff S).1 h
theorem row_next {S : List It} (h : Sym S) (i : Nat) {L : List Int} (p : L.Perm (S.map (·.1) ++ prsZ ((rowI S i).map (·.1)))) (hs : L.Pairwise (fun a b => leZ a b = true)) : L = (rowI S (i + 1)).map (·.1) := by
  refine srt_eq hs (ris_map (row_ris h (i + 1))) (p.trans ?_)
  rw [← prs_map, ← List.map_append]
  exact ((List.merge_perm_append leI).map _).symm
theorem one_next {S : List It} (h : Sym S) {c : Nat → Int} {len : Nat} (hp : S.Perm ((pos c len).map (fun x => ((c x, true) : It)))) {L : List Int} (p : L.Perm ((pos c len).map c)) (hs : L.Pairwise (fun a b => leZ a b = true)) : L = S.map (·.1) := by
  refine srt_eq hs (ris_map h.ris) (p.trans ?_)
  have := (hp.map (·.1)).symm
  rw [List.map_map] at this
  exact this
theorem sum_take (S : List It) (K : Nat) (hK : K ≤ S.length) : wsum (S.take K) = sumZ (fun p => (S.map (·.1)).getD p 0) K := by
  have e := pre_sum S K hK
  unfold pre at e
  rw [e]
  refine sumZ_congr K (fun k hk => ?_)
  rw [at_get (by omega), List.getD_eq_getElem?_getD, List.getElem?_map, List.getElem?_eq_getElem (by omega)]
  rfl
/-- Integers of a list in a block. -/
def zc (L : List Int) : List Value := L.map (fun x => .int .i64 x)
theorem zc_len (L : List Int) : (zc L).length = L.length := by simp [zc]
theorem zc_at (L : List Int) (i : Nat) (h : i < L.length) : (zc L)[i]? = some (.int .i64 (L.getD i 0)) := by simp [zc, h]
theorem zc_cells (L : List Int) : zc L = Gth.cells (fun i => L.getD i 0) L.length := by
  apply List.ext_getElem?
  intro i
  by_cases h : i < L.length
  · rw [zc_at L i h, Gth.cells_at _ _ _ h]
  · rw [List.getElem?_eq_none (by rw [zc_len]; omega), List.getElem?_eq_none (by rw [Gth.cells_len]; omega)]
end Go.Proofs.Ytcfnbbelbadmkaa.Lea
