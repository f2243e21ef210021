/- Plain facts: what is left to sort behind each step of the library's sorting. No function of the program. No conditions. -/
import Derived.Test.YtflmlbdcjjldgaaQMat
namespace Go.Proofs.Ytflmlbdcjjldgaa.QMbt
set_option linter.unusedVariables false
open Go.ChangeShapes Go.WideShapes Go.ChangeAt Go.RowKit Go.Sort Go.Proofs.Ytflmlbdcjjldgaa.Core Go.Proofs.Ytflmlbdcjjldgaa.QNum Go.Proofs.Ytflmlbdcjjldgaa.QMat

theorem cl_t {x y : Nat} : cl x y = true ↔ x < y := by simp [cl]
theorem cl_f {x y : Nat} : cl x y = false ↔ y ≤ x := by simp [cl]
variable {a b a' b' m p q : Nat} {d d3 d4 d5 : Array Nat}
theorem left_same (h : Tobe a b d a' b' d3) (hb : b' ≤ d3.size) (S : Same a' b' d3 p m d4) (hp : ∀ t, a' ≤ t → t < b' → p ≤ d3[t]!) : Tobe a b d m b' d4 := by
  intro e P Q
  have hs : d4.size = d3.size := S.perm.1
  have k1 := S.h1
  have k2 := S.h2
  have g4 := perm_le S.perm hb (fun x => p ≤ x) hp
  refine h e (permIn_trans _ _ _ _ _ S.perm (permIn_mono d4 e m b' a' b' (by omega) (Nat.le_refl _) (by omega) P)) ?_
  refine sorted_glue_eq cl_swo p Q (fun i h1 h2 => ?_) (fun i h1 h2 => ?_) (perm_le P (by omega) (fun x => cl p x = true) S.hi)
  · rw [P.2.1 i (.inl h2)]; exact S.lo i h1 h2
  · rw [P.2.1 i (.inl h2)]; exact cl_f.2 (g4 i h1 (by omega))
theorem below_same (S : Same a' b' d3 p m d4) : Go.Sort.Below cl m b' d4 := by
  right
  intro i h1 h2
  have k1 := S.h1
  have := cl_t.1 (S.hi i h1 h2)
  have := cl_f.1 (S.lo (m - 1) (by omega) (by omega))
  exact cl_f.2 (by omega)
theorem below_perm {dk : Array Nat} (h : Go.Sort.Below cl a' b' dk) (hb : b' ≤ dk.size) (k : PermIn a' b' dk d3) : Go.Sort.Below cl a' b' d3 := Go.Sort.Below.perm h hb k
theorem all_ge (h : Go.Sort.Below cl a' b' d3) (h0 : 0 < a') (hl : cl d3[a' - 1]! d3[q]! = false) : ∀ t, a' ≤ t → t < b' → d3[q]! ≤ d3[t]! := by
  rcases h with h | h
  · omega
  · intro t h1 h2
    have := cl_f.1 (h t h1 h2)
    have := cl_f.1 hl
    omega
theorem below_left (h : Go.Sort.Below cl a' b' d4) (hm : m ≤ b') : Go.Sort.Below cl a' m d4 := by
  rcases h with h | h
  · exact .inl h
  · exact .inr fun i h1 h2 => h i h1 (by omega)
theorem below_right (C : Cut a' b' d3 m d4) : Go.Sort.Below cl (m + 1) b' d4 := .inr fun i h1 h2 => C.hi i (by omega) h2
theorem left_l (h : Tobe a b d a' b' d3) (hb : b' ≤ d3.size) (C : Cut a' b' d3 m d4) (P5 : PermIn a' m d4 d5) (S5 : SortedIn cl a' m d5) : Tobe a b d (m + 1) b' d5 := by
  intro e P Q
  have s4 : d4.size = d3.size := C.perm.1
  have s5 : d5.size = d4.size := P5.1
  have k1 := C.h1
  have k2 := C.h2
  have P45 : PermIn a' b' d4 d5 := permIn_mono d4 d5 a' m a' b' (Nat.le_refl _) (by omega) (by omega) P5
  have P5e : PermIn a' b' d5 e := permIn_mono d5 e (m + 1) b' a' b' (by omega) (Nat.le_refl _) (by omega) P
  refine h e (permIn_trans _ _ _ _ _ C.perm (permIn_trans _ _ _ _ _ P45 P5e)) ?_
  have em : e[m]! = d4[m]! := by rw [P.2.1 m (.inl (by omega)), P5.2.1 m (.inr (Nat.le_refl _))]
  refine sorted_glue cl_swo (mid := m) (fun i j h1 h2 h3 => ?_) Q (fun i h1 h2 => ?_) ?_
  · rw [P.2.1 i (.inl (by omega)), P.2.1 j (.inl (by omega))]; exact S5 i j h1 h2 h3
  · rw [em, P.2.1 i (.inl (by omega))]
    exact perm_le P5 (by omega) (fun x => cl x d4[m]! = true) C.lo i h1 h2
  · rw [em]
    intro i h1 h2
    refine perm_le P (by omega) (fun x => cl x d4[m]! = false) (fun t q1 q2 => ?_) i (by omega) h2
    rw [P5.2.1 t (.inr (by omega))]
    exact C.hi t (by omega) q2
theorem below_l (C : Cut a' b' d3 m d4) (P5 : PermIn a' m d4 d5) : Go.Sort.Below cl (m + 1) b' d5 := .inr fun i h1 h2 => by
  show cl d5[i]! d5[m]! = false
  rw [P5.2.1 i (.inr (by omega)), P5.2.1 m (.inr (Nat.le_refl _))]
  exact C.hi i (by omega) h2
theorem left_r (h : Tobe a b d a' b' d3) (hb : b' ≤ d3.size) (C : Cut a' b' d3 m d4) (P5 : PermIn (m + 1) b' d4 d5) (S5 : SortedIn cl (m + 1) b' d5) : Tobe a b d a' m d5 := by
  intro e P Q
  have s4 : d4.size = d3.size := C.perm.1
  have s5 : d5.size = d4.size := P5.1
  have k1 := C.h1
  have k2 := C.h2
  have P45 : PermIn a' b' d4 d5 := permIn_mono d4 d5 (m + 1) b' a' b' (by omega) (Nat.le_refl _) (by omega) P5
  have P5e : PermIn a' b' d5 e := permIn_mono d5 e a' m a' b' (Nat.le_refl _) (by omega) (by omega) P
  refine h e (permIn_trans _ _ _ _ _ C.perm (permIn_trans _ _ _ _ _ P45 P5e)) ?_
  have em : e[m]! = d4[m]! := by rw [P.2.1 m (.inr (Nat.le_refl _)), P5.2.1 m (.inl (by omega))]
  refine sorted_glue cl_swo (mid := m) Q (fun i j h1 h2 h3 => ?_) ?_ (fun i h1 h2 => ?_)
  · rw [P.2.1 i (.inr (by omega)), P.2.1 j (.inr (by omega))]; exact S5 i j h1 h2 h3
  · rw [em]
    intro i h1 h2
    refine perm_le P (by omega) (fun x => cl x d4[m]! = true) (fun t q1 q2 => ?_) i h1 h2
    rw [P5.2.1 t (.inl (by omega))]
    exact C.lo t q1 q2
  · rw [em, P.2.1 i (.inr (by omega))]
    exact perm_le P5 (by omega) (fun x => cl x d4[m]! = false) (fun t q1 q2 => C.hi t (by omega) q2) i (by omega) h2
theorem below_r (h : Go.Sort.Below cl a' b' d4) (hb : b' ≤ d4.size) (C : Cut a' b' d3 m d4) (P5 : PermIn (m + 1) b' d4 d5) : Go.Sort.Below cl a' m d5 := by
  rcases h with h | h
  · exact .inl h
  · right
    have k1 := C.h1
    have k2 := C.h2
    intro i h1 h2
    rw [P5.2.1 i (.inl (by omega)), P5.2.1 (a' - 1) (.inl (by omega))]
    exact h i h1 (by omega)
theorem left_done (h : Tobe a b d a' b' d3) (k : PermIn a' b' d3 d4) (s : SortedIn cl a' b' d4) : PermIn a b d d4 ∧ SortedIn cl a b d4 := h d4 k s
end Go.Proofs.Ytflmlbdcjjldgaa.QMbt
