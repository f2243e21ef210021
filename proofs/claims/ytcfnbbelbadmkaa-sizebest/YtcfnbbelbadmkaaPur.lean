/- Plain facts: rows of items, joined two by two; what the first of them cost, and how many are symbols. Conditions: as each says. -/
import Derived.Test.YtcfnbbelbadmkaaMrg
namespace Go.Proofs.Ytcfnbbelbadmkaa.Pur
open Go.Proofs.Ytcfnbbelbadmkaa.Itm Go.Proofs.Ytcfnbbelbadmkaa.Mrg

/-- Items joined two by two. -/
def prs : List It → List It
  | a :: b :: t => (a.1 + b.1, false) :: prs t
  | _ => []
theorem prs_len : ∀ xs : List It, (prs xs).length = xs.length / 2
  | [] => rfl
  | [_] => by simp [prs]
  | _ :: _ :: t => by
    have := prs_len t
    simp only [prs, List.length_cons]
    omega
def wsum (xs : List It) : Int := (xs.map (·.1)).sum
theorem wsum_nil : wsum [] = 0 := rfl
theorem wsum_cons (x : It) (xs : List It) : wsum (x :: xs) = x.1 + wsum xs := by simp [wsum]
theorem wsum_app (xs ys : List It) : wsum (xs ++ ys) = wsum xs + wsum ys := by simp [wsum]
theorem prs_take : ∀ (xs : List It) (j : Nat), j ≤ xs.length / 2 → wsum ((prs xs).take j) = wsum (xs.take (2 * j))
  | _, 0, _ => by simp
  | [], j + 1, h => by simp at h
  | [_], j + 1, h => by simp at h
  | a :: b :: t, j + 1, h => by
    have := prs_take t j (by simp only [List.length_cons] at h; omega)
    simp only [prs, List.take_succ_cons, wsum_cons, show 2 * (j + 1) = 2 * j + 1 + 1 by omega]
    omega
/-- Weights that rise. -/
def Ris (xs : List It) : Prop := ∀ i j, i < j → j < xs.length → (at_ xs i).1 ≤ (at_ xs j).1
def cntS (xs : List It) (k : Nat) : Nat := (xs.take k).countP (·.2)
theorem at_get {xs : List It} {i : Nat} (h : i < xs.length) : at_ xs i = xs[i] := by simp [at_, h]
/-- The first k of two rows merged: the first ones of each. -/
theorem mrg_take : ∀ (xs ys : List It) (k : Nat), Ris xs → k ≤ xs.length + ys.length → ∃ t j, t + j = k ∧ t ≤ xs.length ∧ j ≤ ys.length ∧ ((xs.merge ys leI).take k).Perm (xs.take t ++ ys.take j) ∧ (t < xs.length → 0 < j → (at_ ys (j - 1)).1 < (at_ xs t).1)
  | _, _, 0, _, _ => ⟨0, 0, rfl, Nat.zero_le _, Nat.zero_le _, by simp, fun _ h => absurd h (Nat.lt_irrefl _)⟩
  | [], ys, k + 1, _, h => ⟨0, k + 1, by omega, Nat.le_refl _, by simpa using h, by rw [List.nil_merge]; simp, fun h => absurd h (Nat.lt_irrefl _)⟩
  | x :: xs, [], k + 1, _, h => ⟨k + 1, 0, rfl, by simpa using h, Nat.le_refl _, by rw [List.merge_right]; simp, fun _ h => absurd h (Nat.lt_irrefl _)⟩
  | x :: xs, y :: ys, k + 1, hr, h => by
    by_cases hle : leI x y = true
    · obtain ⟨t, j, e1, e2, e3, e4, e5⟩ := mrg_take xs (y :: ys) k (fun i j h1 h2 => by
        have := hr (i + 1) (j + 1) (by omega) (by simp; omega)
        rwa [at_cons, at_cons] at this) (by simp at h ⊢; omega)
      refine ⟨t + 1, j, by omega, by simp; omega, e3, ?_, fun h1 h2 => ?_⟩
      · rw [List.cons_merge_cons_pos leI _ _ hle, List.take_succ_cons, List.take_succ_cons, List.cons_append]
        exact e4.cons x
      · rw [at_cons]
        exact e5 (by simpa using h1) h2
    · obtain ⟨t, j, e1, e2, e3, e4, e5⟩ := mrg_take (x :: xs) ys k hr (by simp at h ⊢; omega)
      refine ⟨t, j + 1, by omega, e2, by simp; omega, ?_, fun h1 _ => ?_⟩
      · rw [List.cons_merge_cons_neg leI _ _ hle, List.take_succ_cons, List.take_succ_cons]
        refine (e4.cons y).trans ?_
        exact List.perm_middle.symm
      · have hlt : y.1 < x.1 := by simpa [leI] using hle
        cases j with
        | zero =>
          show (at_ (y :: ys) 0).1 < _
          rw [at_head]
          cases t with
          | zero => exact hlt
          | succ t =>
            have := hr 0 (t + 1) (by omega) h1
            rw [at_head] at this
            omega
        | succ j =>
          have := e5 h1 (by omega)
          rw [show j + 1 + 1 - 1 = j + 1 by omega, at_cons]
          simpa using this
theorem prs_at : ∀ (xs : List It) (j : Nat), j < xs.length / 2 → at_ (prs xs) j = ((at_ xs (2 * j)).1 + (at_ xs (2 * j + 1)).1, false)
  | [], j, h => by simp at h
  | [_], j, h => by simp at h
  | a :: b :: t, 0, _ => rfl
  | a :: b :: t, j + 1, h => by
    have := prs_at t j (by simp only [List.length_cons] at h; omega)
    simp only [prs]
    rw [at_cons, this, show 2 * (j + 1) = 2 * j + 1 + 1 by omega, at_cons, at_cons, show 2 * j + 1 + 1 + 1 = (2 * j + 1) + 1 + 1 by omega, at_cons, at_cons]
theorem prs_false : ∀ (xs : List It), ∀ y ∈ prs xs, y.2 = false
  | [], y, h => by simp [prs] at h
  | [_], y, h => by simp [prs] at h
  | a :: b :: t, y, h => by
    simp only [prs, List.mem_cons] at h
    rcases h with rfl | h
    · rfl
    · exact prs_false t y h
def Pos (xs : List It) : Prop := ∀ x ∈ xs, 0 < x.1
theorem prs_pos : ∀ (xs : List It), Pos xs → Pos (prs xs)
  | [], _ => fun y h => by simp [prs] at h
  | [_], _ => fun y h => by simp [prs] at h
  | a :: b :: t, hp => fun y h => by
    simp only [prs, List.mem_cons] at h
    rcases h with rfl | h
    · have h1 := hp a (by simp)
      have h2 := hp b (by simp)
      show 0 < a.1 + b.1
      omega
    · exact prs_pos t (fun x hx => hp x (by simp [hx])) y h
theorem at_mem {xs : List It} {i : Nat} (h : i < xs.length) : at_ xs i ∈ xs := by
  rw [at_get h]
  exact List.getElem_mem h
theorem mem_at {xs : List It} {x : It} (h : x ∈ xs) : ∃ i, i < xs.length ∧ at_ xs i = x := by
  obtain ⟨i, hi, e⟩ := List.getElem_of_mem h
  exact ⟨i, hi, by rw [at_get hi]; exact e⟩
theorem ris_iff (xs : List It) : Ris xs ↔ xs.Pairwise (fun a b => leI a b = true) := by
  rw [List.pairwise_iff_getElem]
  constructor
  · intro h i j hi hj hij
    have := h i j hij hj
    rw [at_get hi, at_get hj] at this
    exact decide_eq_true this
  · intro h i j hij hj
    have := h i j (by omega) hj hij
    rw [at_get (by omega), at_get hj]
    exact of_decide_eq_true this
theorem ris_merge {xs ys : List It} (h1 : Ris xs) (h2 : Ris ys) : Ris (xs.merge ys leI) :=
  (ris_iff _).2 (List.pairwise_merge (fun a b c h1 h2 => by
      have := of_decide_eq_true h1
      have := of_decide_eq_true h2
      exact decide_eq_true (by omega)) (fun a b => by
      rcases Int.le_total a.1 b.1 with h | h
      · simp [leI, h]
      · simp [leI, h]) _ _ ((ris_iff _).1 h1) ((ris_iff _).1 h2))
theorem Ris.le {xs : List It} (h : Ris xs) {i j : Nat} (hij : i ≤ j) (hj : j < xs.length) : (at_ xs i).1 ≤ (at_ xs j).1 := by
  by_cases e : i = j
  · subst e; exact Int.le_refl _
  · exact h i j (by omega) hj
theorem ris_prs {xs : List It} (h : Ris xs) : Ris (prs xs) := fun i j hij hj => by
  rw [prs_len] at hj
  rw [prs_at _ _ (by omega), prs_at _ _ hj]
  have h1 := h.le (i := 2 * i) (j := 2 * j) (by omega) (by omega)
  have h2 := h.le (i := 2 * i + 1) (j := 2 * j + 1) (by omega) (by omega)
  show (at_ xs (2 * i)).1 + (at_ xs (2 * i + 1)).1 ≤ (at_ xs (2 * j)).1 + (at_ xs (2 * j + 1)).1
  omega
/-- The rows. -/
def rowI (S : List It) : Nat → List It
  | 0 => S
  | i + 1 => S.merge (prs (rowI S i)) leI
def joi (S : List It) : Nat → List It
  | 0 => []
  | i + 1 => prs (rowI S i)
theorem rowI_eq (S : List It) : ∀ i, rowI S i = S.merge (joi S i) leI
  | 0 => by simp [rowI, joi]
  | _ + 1 => rfl
structure Sym (S : List It) : Prop where
  ris : Ris S
  pos : Pos S
  all : ∀ x ∈ S, x.2 = true
theorem row_ris {S : List It} (h : Sym S) : ∀ i, Ris (rowI S i)
  | 0 => h.ris
  | i + 1 => ris_merge h.ris (ris_prs (row_ris h i))
theorem joi_ris {S : List It} (h : Sym S) : ∀ i, Ris (joi S i)
  | 0 => fun _ _ _ hj => absurd hj (Nat.not_lt_zero _)
  | i + 1 => ris_prs (row_ris h i)
theorem row_mem {S : List It} {i : Nat} {x : It} : x ∈ rowI S i ↔ x ∈ S ∨ x ∈ joi S i := by
  rw [rowI_eq, (List.merge_perm_append leI).mem_iff, List.mem_append]
theorem row_pos {S : List It} (h : Sym S) : ∀ i, Pos (rowI S i)
  | 0 => h.pos
  | i + 1 => fun x hx => by
    rcases row_mem.1 hx with h1 | h1
    · exact h.pos x h1
    · exact prs_pos _ (row_pos h i) x h1
theorem joi_false (S : List It) : ∀ i, ∀ y ∈ joi S i, y.2 = false
  | 0 => fun y h => by simp [joi] at h
  | i + 1 => prs_false _
theorem row_len (S : List It) (i : Nat) : (rowI S i).length = S.length + (joi S i).length := by
  rw [rowI_eq, List.length_merge]
theorem joi_len (S : List It) (i : Nat) : (joi S (i + 1)).length = (rowI S i).length / 2 := prs_len _
/-- How many of the first k of a row are symbols. -/
def tk (S : List It) (i k : Nat) : Nat := cntS (rowI S i) k
theorem row_take {S : List It} (h : Sym S) (i k : Nat) (hk : k ≤ (rowI S i).length) : tk S i k ≤ S.length ∧ tk S i k ≤ k ∧ k - tk S i k ≤ (joi S i).length ∧ ((rowI S i).take k).Perm (S.take (tk S i k) ++ (joi S i).take (k - tk S i k)) ∧ (tk S i k < S.length → tk S i k < k → (at_ (joi S i) (k - tk S i k - 1)).1 < (at_ S (tk S i k)).1) := by
  obtain ⟨t, j, e1, e2, e3, e4, e5⟩ := mrg_take S (joi S i) k h.ris (by rw [← row_len]; exact hk)
  rw [← rowI_eq] at e4
  have et : tk S i k = t := by
    unfold tk cntS
    rw [e4.countP_eq, List.countP_append, List.countP_eq_length.2 (fun x hx => h.all x (List.mem_of_mem_take hx)), List.countP_eq_zero.2 (fun x hx => by rw [joi_false S i x (List.mem_of_mem_take hx)]; simp), List.length_take]
    omega
  rw [et]
  obtain rfl : j = k - t := by omega
  exact ⟨e2, by omega, e3, e4, fun h1 h2 => e5 h1 (by omega)⟩
end Go.Proofs.Ytcfnbbelbadmkaa.Pur
