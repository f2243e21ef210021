/- Plain facts: what the statements' steps come to; an answer's form; a copy of steps and of pixels by append. Conditions: as each says. -/
import Derived.Test.YtpkiilnkiidoiaaKInp
import Derived.Test.YtpkiilnkiidoiaaKExp
namespace Go.Proofs.Ytpkiilnkiidoiaa.KFin
set_option linter.unusedVariables false
open Go.ChangeShapes Go.WideShapes Go.ChangeAt Go.RowKit Go.Proofs.Ytpkiilnkiidoiaa.Core Go.Proofs.Ytpkiilnkiidoiaa.CNum Go.Proofs.Ytpkiilnkiidoiaa.KNum Go.Proofs.Ytpkiilnkiidoiaa.KMem Go.Proofs.Ytpkiilnkiidoiaa.KInp Go.Proofs.Ytpkiilnkiidoiaa.KExp

theorem exp_len {b m : Nat} : ∀ (ts : List Tk) {l l' : List Nat}, l.length ≤ m → expP b m l ts = some l' → l'.length ≤ m
  | [], l, l', h, e => by simp [expP] at e; rw [← e]; exact h
  | t :: ts, l, l', h, e => by
    rcases hs : stepP b m l t with _ | l2
    · rw [exp_none hs] at e; cases e
    · rw [exp_some hs] at e
      exact exp_len ts (step_len hs) e
theorem all_len {b m : Nat} {ts : List Tk} {l : List Nat} (h : allP b m ts = some l) : l.length ≤ m := by
  unfold allP at h
  rcases he : expP b m [] ts with _ | l2
  · rw [he] at h; cases h
  · rw [he] at h
    simp only at h
    split at h
    · cases h
    · cases h; exact exp_len ts (by simp) he
def lz (r : Option (List Nat)) : List Nat := r.getD []
def zz : Option (List Nat) → Int
  | some _ => 0
  | none => 3
theorem lz_len {b m : Nat} {ts : List Tk} : (lz (allP b m ts)).length ≤ m := by
  rcases h : allP b m ts with _ | l
  · simp [lz]
  · exact all_len h
/-- An answer's form. -/
theorem xans_form {w w' : World} {r : Option (List Nat)} {e : Ending} (h : XAns w r e w') : ∃ a c, e = .returned (.tuple #[.slice a (lz r).length c, .int .i64 (zz r)]) ∧ Lst w'.heap.size w' a (lz r) ∧ Below w.heap.size w w' := by
  rcases r with _ | l
  · exact ⟨none, 0, h.1, lst_nil, h.2⟩
  · obtain ⟨⟨a, c, h1, _, h3⟩, h4⟩ := h
    exact ⟨a, c, h1, h3, h4⟩
def lits (r : List Nat) : List Tk := r.map fun a => ⟨1, 0, 0, 0, a⟩
theorem exp_lits {b m : Nat} {rest : List Tk} : ∀ (r l : List Nat), l.length + r.length ≤ m → expP b m l (lits r ++ rest) = expP b m (l ++ r) rest
  | [], l, h => by simp [lits]
  | a :: r, l, h => by
    simp only [List.length_cons] at h
    show expP b m l (⟨1, 0, 0, 0, a⟩ :: (lits r ++ rest)) = _
    rw [exp_some (step_lit (decide_eq_true ⟨rfl, by omega⟩)), exp_lits r (l ++ [a]) (by simp; omega)]
    simp
theorem runs_yes {px : List Nat} {k : Nat} (h0 : 0 < px.length) (hk : 1 ≤ k) (hk2 : k ≤ 4096) : allP 0 (px.length + k) (lits px ++ [⟨2, k, (px.length : Nat), 0, 0⟩]) = some (cpy px px.length k) := by
  have e : expP 0 (px.length + k) [] (lits px ++ [⟨2, k, (px.length : Nat), 0, 0⟩]) = some (cpy px px.length k) := by
    rw [exp_lits px [] (by simp), List.nil_append, exp_some (step_cpy (decide_eq_true ⟨rfl, show (1 : Int) ≤ (k : Int) by omega, show (k : Int) ≤ 4096 by omega, show (1 : Int) ≤ (px.length : Int) by omega, Int.le_refl _, show (k : Int) + (px.length : Nat) ≤ ((px.length + k : Nat) : Int) by omega⟩))]
    simp [expP]
  exact all_some e (by rw [cpy_len]; omega)
theorem runs_no {px : List Nat} {k : Nat} (hk : 1 ≤ k) : allP 0 (px.length + k - 1) (lits px ++ [⟨2, k, (px.length : Nat), 0, 0⟩]) = none := by
  refine all_none ?_
  rw [exp_lits px [] (by simp; omega), List.nil_append, exp_none]
  exact step_no (decide_eq_false (fun h => by have := h.1; simp at this)) (decide_eq_false (fun h => by have h6 : (k : Int) + (px.length : Nat) ≤ ((px.length + k - 1 : Nat) : Int) := h.2.2.2.2.2; omega)) (decide_eq_false (fun h => by have := h.1; simp at this))
theorem cpy_mod {px : List Nat} (h0 : 0 < px.length) : ∀ (k i : Nat), i < px.length + k → (cpy px px.length k).getD i 0 = px.getD (i % px.length) 0
  | 0, i, h => by rw [Nat.mod_eq_of_lt (by omega)]; rfl
  | k + 1, i, h => by
    rw [cpy, cpy_len]
    by_cases hi : i < px.length + k
    · rw [List.getD_eq_getElem?_getD, List.getElem?_append_left (by rw [cpy_len]; exact hi), ← List.getD_eq_getElem?_getD]
      exact cpy_mod h0 k i hi
    · have e : i = px.length + k := by omega
      subst e
      rw [List.getD_eq_getElem?_getD, List.getElem?_append_right (by rw [cpy_len]; omega), cpy_len]
      simp only [Nat.sub_self, List.getElem?_cons_zero, Option.getD_some]
      rw [show px.length + k - px.length = k by omega, cpy_mod h0 k k (by omega), Nat.add_mod_left]
theorem sngs_at (b : Nat) : ∀ (r l : List Nat) (i a : Nat), r[i]? = some a → (sngs b l r)[i]? = some (sgl b (l ++ r.take i) a)
  | [], l, i, a, h => by simp at h
  | x :: r, l, 0, a, h => by
    simp only [List.getElem?_cons_zero, Option.some.injEq] at h
    subst h
    simp [sngs]
  | x :: r, l, i + 1, a, h => by
    rw [List.getElem?_cons_succ] at h
    rw [sngs, List.getElem?_cons_succ, sngs_at b r (l ++ [x]) i a h, List.take_succ_cons]
    simp
theorem known_at {c k i p : Nat} (hc : 1 ≤ c) (hi : i < k) (h1 : 1 ≤ i) : (covP c (List.replicate k p) 0 [])[i]? = some ⟨3, 0, 0, (sl p c : Nat), 0⟩ := by
  rw [covP, List.take_zero, List.drop_zero, sngs_at c _ [] i p (by simp [hi]), List.nil_append, List.take_replicate, Nat.min_eq_left (by omega)]
  refine congrArg some (sgl_yes (by omega) ?_)
  obtain ⟨j, rfl⟩ : ∃ j, i = j + 1 := ⟨i - 1, by omega⟩
  rw [List.replicate_succ', cf_snoc, upd_same]
theorem known_zero {c k p : Nat} (hc : 1 ≤ c) (hk : 0 < k) : (covP c (List.replicate k p) 0 [])[0]? = some (if p = 0 then ⟨3, 0, 0, (sl p c : Nat), 0⟩ else ⟨1, 0, 0, 0, p⟩) := by
  rw [covP, List.take_zero, List.drop_zero, sngs_at c _ [] 0 p (by simp [hk])]
  refine congrArg some ?_
  by_cases hp : p = 0
  · rw [if_pos hp]; exact sgl_yes (by omega) (by rw [hp]; rfl)
  · rw [if_neg hp]; exact sgl_no (.inr (fun e => hp e.symm))
theorem known_len {c k p : Nat} : (covP c (List.replicate k p) 0 []).length = k := by
  rw [covP, sngs_len]; simp
/-- A copy of steps. -/
theorem app_tks {w : World} {ops : Array Oper} {rest : List Oper} {o : Oper} {a : Act} {Q : Exit → Act → World → Prop} (hgd : o.guard = none) (s x : Operand)
    (ho : o.op = .call { callee := .builtin .append, args := #[s, x], argTypes := #[22, 22] })
    (base : Nat) (v : Value) (hs : a.eval s = v) (hown : w.ownsRow base 37 5 v 0 []) (B : Nat) (az : Option Addr) (len cap : Nat) (ts : List Tk) (hx : a.eval x = .slice az len cap) (hl : ts.length = len) (h : Tks B w az ts) (h0 : az = none → cap = 0) (hn : len ≤ 1000000) (hbase : base ≤ w.heap.size)
    (hK : ∀ a' c' w', Tks w'.heap.size w' a' ts → w.grownBy w' v.ownBlock → wpList Try.prog ops Q rest (a.put o.dst (.slice a' len c')) w') : wpList Try.prog ops Q (o :: rest) a w := by
  obtain ⟨i0, hi, hz0, hz1, hz2⟩ := info_parts info37
  rcases az with _ | ad
  · have e : ts = [] := by
      rcases ts with _ | ⟨t, ts⟩
      · rfl
      · obtain ⟨_, _, e, _⟩ := h 0 t rfl
        cases e
    subst e
    simp at hl
    subst hl
    obtain ⟨av, cv, rfl, _⟩ := own_shape hown
    refine wpList_append_own_none hgd s x 22 ho base 37 i0 5 Try.underlying22 hi _ 0 [] hs hown (by rw [hx, h0 rfl]) ?_
    exact hK _ _ _ (fun i t ht => by simp at ht) (World.grownBy.refl _ _)
  · refine wpList_append_own w hgd s x 22 ho base 37 i0 _ 5 40 Try.underlying22 hi hz0 hz1 hz2 rfl (by decide) v 0 [] hs hown ad len cap (tcs ts) hx (by rw [tcs_len, hl]) (news_tks h) (tcs_one ts) (by unfold maxLen; omega) (by omega) hbase (fun v' w' h1 h2 _ => ?_)
    rw [Nat.zero_add, List.nil_append] at h1
    obtain ⟨a', c', e, _, tk⟩ := own_tks h1 hl.symm
    subst e
    rw [hl]
    exact hK _ _ _ tk h2
/-- A copy of pixels. -/
theorem app_lst {w : World} {ops : Array Oper} {rest : List Oper} {o : Oper} {a : Act} {Q : Exit → Act → World → Prop} (hgd : o.guard = none) (s x : Operand)
    (ho : o.op = .call { callee := .builtin .append, args := #[s, x], argTypes := #[24, 24] })
    (base : Nat) (v : Value) (hs : a.eval s = v) (hown : w.ownsRow base 35 1 v 0 []) (B : Nat) (az : Option Addr) (len cap : Nat) (l : List Nat) (hx : a.eval x = .slice az len cap) (hl : l.length = len) (h : Lst B w az l) (h0 : az = none → cap = 0) (hn : len ≤ 1000000) (hbase : base ≤ w.heap.size)
    (hK : ∀ a' c' w', len ≤ c' → Lst w'.heap.size w' a' l → w.grownBy w' v.ownBlock → wpList Try.prog ops Q rest (a.put o.dst (.slice a' len c')) w') : wpList Try.prog ops Q (o :: rest) a w := by
  obtain ⟨i0, hi, hz0, hz1, hz2⟩ := info_parts info35
  rcases az with _ | ad
  · have e : l = [] := by
      rcases l with _ | ⟨t, ts⟩
      · rfl
      · obtain ⟨_, _, e, _⟩ := h 0 t rfl
        cases e
    subst e
    simp at hl
    subst hl
    obtain ⟨av, cv, rfl, _⟩ := own_shape hown
    refine wpList_append_own_none hgd s x 24 ho base 35 i0 1 Try.underlying24 hi _ 0 [] hs hown (by rw [hx, h0 rfl]) ?_
    exact hK _ _ _ (Nat.zero_le _) lst_nil (World.grownBy.refl _ _)
  · refine wpList_append_own w hgd s x 24 ho base 35 i0 _ 1 4 Try.underlying24 hi hz0 hz1 hz2 rfl (by decide) v 0 [] hs hown ad len cap (cl l) hx (by rw [cl_len, hl, Nat.mul_one]) (news_lst h) (cl_one l) (by unfold maxLen; omega) (by omega) hbase (fun v' w' h1 h2 _ => ?_)
    rw [Nat.zero_add, List.nil_append, ← hl] at h1
    obtain ⟨a', c', e, hc, tk⟩ := own_lst h1
    subst e
    rw [hl]
    exact hK _ _ _ (by omega) tk h2
end Go.Proofs.Ytpkiilnkiidoiaa.KFin
